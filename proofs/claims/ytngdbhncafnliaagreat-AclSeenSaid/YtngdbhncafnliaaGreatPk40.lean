/-
  Some texts of one proof, one behind the other.
-/
import Derived.Deep.LoopGhost
import Derived.WalkMore
import Derived.Test.YtngdbhncafnliaaGreatPk8
import Derived.Test.YtngdbhncafnliaaGreatPk12
set_option linter.unusedVariables false
set_option linter.unusedSimpArgs false

/-
  Which types there aren't; what is wrong with a type.
-/
namespace Go.Proofs.YtngdbhncafnliaaGreat
open Go.RowKit

namespace Mt
def lacks (s : Sc) (n : List UInt8) : Bool := decide (tyAt s n < 0)
def chkTy (s : Sc) (i : Nat) : Int :=
  if typL (tyI s i).name = false then 20 else if tyAt s (tyI s i).name < i then 21 else if (tyI s i).syn < 1 ∨ 8 < (tyI s i).syn then 23 else 0
def wrong (b : Bool) : Int := if b then 2 else 0
def chkSup (s : Sc) (i : Nat) : Int :=
  if (clI s i).sup ≠ [] ∧ supAt s i < 0 then 22 else if supAt s i < 0 then wrong (decide ((clI s i).kind ≠ 0)) else wrong (decide ((clI s (supAt s i)).kind ≠ 0) && decide ((clI s (supAt s i)).kind ≠ (clI s i).kind))
def chkCl (s : Sc) (i : Nat) : Int :=
  if typL (clI s i).name = false then 20 else if clAt s (clI s i).name < i then 21 else if (clI s i).kind ≠ 0 ∧ (clI s i).kind ≠ 1 ∧ (clI s i).kind ≠ 2 then 23
  else if chkSup s i ≠ 0 then chkSup s i else if (clI s i).must.any (lacks s) || (clI s i).may.any (lacks s) then 22 else 0
def rootN : List UInt8 := [111, 98, 106, 101, 99, 116, 67, 108, 97, 115, 115]
def chkRoot (s : Sc) : Int := if tyAt s rootN < 0 then 22 else wrong (decide ((tyI s (tyAt s rootN)).syn ≠ 3) || (tyI s (tyAt s rootN)).single)
def firstE (f : Nat → Int) : Nat → Nat → Int
  | 0, _ => 0
  | k + 1, i => if f i ≠ 0 then f i else firstE f k (i + 1)
def chk (s : Sc) : Int := if 128 < s.types.length ∨ 128 < s.classes.length then 9
  else if firstE (chkTy s) s.types.length 0 ≠ 0 then firstE (chkTy s) s.types.length 0
  else if firstE (chkCl s) s.classes.length 0 ≠ 0 then firstE (chkCl s) s.classes.length 0
  else chkRoot s
end Mt
end Go.Proofs.YtngdbhncafnliaaGreat

/-
  What is wrong with a type, with a class's Sup.
-/
namespace Go.Proofs.YtngdbhncafnliaaGreat
open Go.RowKit

end Go.Proofs.YtngdbhncafnliaaGreat

/-
  What is wrong with a class's Sup.
-/
namespace Go.Proofs.YtngdbhncafnliaaGreat
open Go.RowKit

/-- A class at a place, behind a book in a box of its own. -/
theorem book_class {tv cv : Value} {s : Mt.Sc} (i : Nat) (hi : i < s.classes.length) {w : World} (h : IsSc w tv cv s) :
    ∃ (b off cap : Nat) (m y : Value) (w1 : World), cv = .slice (some ⟨b, off, none⟩) s.classes.length cap ∧ s.classes.length ≤ cap ∧ b < w.heap.size ∧ w.alloc (.cells #[tv, cv] 140) = w1 ∧ w1.heap.size = w.heap.size + 1 ∧ Hid (Below w.heap.size w w1) ∧
      Hid (∀ u, Below (w.heap.size + 1) w1 u → u.cell? ⟨w.heap.size, 0, none⟩ = some tv ∧ u.cell? ⟨w.heap.size, 1, none⟩ = some cv ∧ u.cell? ⟨b, off + i * 5, none⟩ = some (.string (Mt.str s.classes[i].name)) ∧ u.cell? ⟨b, off + i * 5 + 1, none⟩ = some (.string (Mt.str s.classes[i].sup)) ∧ u.cell? ⟨b, off + i * 5 + 2, none⟩ = some (.int .i64 s.classes[i].kind) ∧ u.cell? ⟨b, off + i * 5 + 3, none⟩ = some m ∧ u.cell? ⟨b, off + i * 5 + 4, none⟩ = some y) ∧
      Hid (∀ u, Below w.heap.size w u → IsNms u m s.classes[i].must ∧ IsNms u y s.classes[i].may) := by
  obtain ⟨a, cap, hv, hcap, hcell⟩ := h.classes
  obtain ⟨b, off, m, y, e0, hbl, h0, h1, h2, h3, h4, h5, h6⟩ := hcell.out i hi
  subst e0
  refine ⟨b, off, cap, m, y, _, hv, hcap, hbl, rfl, by simp, Lib.hid ((Below.refl _ w).alloc (Nat.le_refl _) _), Lib.hid fun u hu => ?_, Lib.hid fun u hu => ⟨h5.below hu, h6.below hu⟩⟩
  have hrow := (hu.block w.heap.size (by omega)).trans (heap_alloc_new w (.cells #[tv, cv] 140))
  have hb : Below w.heap.size w u := ((Below.refl _ w).alloc (Nat.le_refl _) _).trans (hu.mono (Nat.le_succ _))
  exact ⟨by rw [cell_of_row _ _ _ _ _ _ hrow]; rfl, by rw [cell_of_row _ _ _ _ _ _ hrow]; rfl, (hb.cell (p := ⟨b, _, none⟩) hbl).trans h0, (hb.cell (p := ⟨b, _, none⟩) hbl).trans h1, (hb.cell (p := ⟨b, _, none⟩) hbl).trans h2, (hb.cell (p := ⟨b, _, none⟩) hbl).trans h3, (hb.cell (p := ⟨b, _, none⟩) hbl).trans h4⟩
/-- Only the kind of one at another place. -/
theorem kind_at {tv cv : Value} {s : Mt.Sc} (j : Nat) (hj : j < s.classes.length) {w : World} (h : IsSc w tv cv s) {b off cap : Nat} (hv : cv = .slice (some ⟨b, off, none⟩) s.classes.length cap) :
    Hid (∀ u, Below w.heap.size w u → u.cell? ⟨b, off + j * 5 + 2, none⟩ = some (.int .i64 s.classes[j].kind)) := by
  obtain ⟨a, cap', hv', hcap, hcell⟩ := h.classes
  obtain ⟨b', off', m, y, e0, hbl, h0, h1, h2, h3, h4, h5, h6⟩ := hcell.out j hj
  subst e0
  rw [hv'] at hv
  cases hv
  exact Lib.hid fun u hu => (hu.cell (p := ⟨b, _, none⟩) hbl).trans h2
theorem box5_of {w : World} {b : Nat} {v0 v1 v2 v3 v4 : Value} {T : TypeId} (h : w.heap[b]? = some (.cells #[v0, v1, v2, v3, v4] T)) :
    (w.cell? ⟨b, 0, none⟩ = some v0 ∧ w.cell? ⟨b, 1, none⟩ = some v1 ∧ w.cell? ⟨b, 2, none⟩ = some v2 ∧ w.cell? ⟨b, 3, none⟩ = some v3 ∧ w.cell? ⟨b, 4, none⟩ = some v4) ∧
    (w.frozen? ⟨b, 0, none⟩ = false ∧ w.frozen? ⟨b, 1, none⟩ = false ∧ w.frozen? ⟨b, 2, none⟩ = false ∧ w.frozen? ⟨b, 3, none⟩ = false ∧ w.frozen? ⟨b, 4, none⟩ = false) :=
  ⟨⟨by rw [cell_of_row _ _ _ _ _ _ h]; rfl, by rw [cell_of_row _ _ _ _ _ _ h]; rfl, by rw [cell_of_row _ _ _ _ _ _ h]; rfl, by rw [cell_of_row _ _ _ _ _ _ h]; rfl, by rw [cell_of_row _ _ _ _ _ _ h]; rfl⟩,
   frozen_of_row _ _ _ _ _ h, frozen_of_row _ _ _ _ _ h, frozen_of_row _ _ _ _ _ h, frozen_of_row _ _ _ _ _ h, frozen_of_row _ _ _ _ _ h⟩
theorem keep5 {w : World} {B : Nat} {a : Addr} {v : Value} (hne : B ≠ a.block) (h : w.cell? a = some v) (u0 u1 u2 u3 u4 : Value) :
    (((((w.setCell ⟨B, 0, none⟩ u0).setCell ⟨B, 1, none⟩ u1).setCell ⟨B, 2, none⟩ u2).setCell ⟨B, 3, none⟩ u3).setCell ⟨B, 4, none⟩ u4).cell? a = some v := by
  rw [World.cell?_setCell_far _ _ _ _ hne, World.cell?_setCell_far _ _ _ _ hne, World.cell?_setCell_far _ _ _ _ hne, World.cell?_setCell_far _ _ _ _ hne, World.cell?_setCell_far _ _ _ _ hne]
  exact h
theorem set5_of {w : World} {b : Nat} {v0 v1 v2 v3 v4 : Value} {T : TypeId} (h : w.heap[b]? = some (.cells #[v0, v1, v2, v3, v4] T)) (u0 u1 u2 u3 u4 : Value) :
    (((((w.setCell ⟨b, 0, none⟩ u0).setCell ⟨b, 1, none⟩ u1).setCell ⟨b, 2, none⟩ u2).setCell ⟨b, 3, none⟩ u3).setCell ⟨b, 4, none⟩ u4).heap[b]? = some (.cells #[u0, u1, u2, u3, u4] T) := by
  have h0 := heap_setCell_same w b 0 _ T u0 h
  have h1 := heap_setCell_same _ b 1 _ T u1 h0
  have h2 := heap_setCell_same _ b 2 _ T u2 h1
  have h3 := heap_setCell_same _ b 3 _ T u3 h2
  exact heap_setCell_same _ b 4 _ T u4 h3
end Go.Proofs.YtngdbhncafnliaaGreat

/-
  What is wrong with a class.
-/
namespace Go.Proofs.YtngdbhncafnliaaGreat
open Go.RowKit

end Go.Proofs.YtngdbhncafnliaaGreat

/-
  What is wrong with a schema.
-/
namespace Go.Proofs.YtngdbhncafnliaaGreat
open Go.RowKit

theorem Mt.firstE_step (f : Nat → Int) (n i : Nat) (h : i < n) : Mt.firstE f (n - i) i = if f i ≠ 0 then f i else Mt.firstE f (n - (i + 1)) (i + 1) := by
  rw [show n - i = (n - (i + 1)) + 1 by omega]; rfl
theorem Mt.firstE_end (f : Nat → Int) (n : Nat) : Mt.firstE f (n - n) n = 0 := by rw [Nat.sub_self]; rfl
end Go.Proofs.YtngdbhncafnliaaGreat

/-
  Places in a slice; the names of a chain.
-/
namespace Go.Proofs.YtngdbhncafnliaaGreat
open Go.RowKit

/-- Places in a slice. -/
def IsNats (w : World) (v : Value) (l : List Nat) : Prop := ∃ a cap, v = .slice a l.length cap ∧ l.length ≤ cap ∧ Hid (∀ j (hj : j < l.length), ∃ b off, a = some ⟨b, off, none⟩ ∧ b < w.heap.size ∧ w.cell? ⟨b, off + j, none⟩ = some (.int .i64 (l[j] : Nat)))
theorem IsNats.below {w u : World} {v : Value} {l : List Nat} (h : IsNats w v l) (hb : Below w.heap.size w u) : IsNats u v l := by
  obtain ⟨a, cap, e, hc, h⟩ := h
  refine ⟨a, cap, e, hc, Lib.hid fun j hj => ?_⟩
  obtain ⟨b, off, h0, h1, h2⟩ := h.out j hj
  exact ⟨b, off, h0, Nat.lt_of_lt_of_le h1 hb.size, (hb.cell (p := ⟨b, _, none⟩) h1).trans h2⟩
theorem IsOwn.nats {base : Nat} {w : World} {v : Value} {r : List Nat} (h : IsOwn 3 1 base w v r.length (nats r)) : IsNats w v r := by
  obtain ⟨g, _, hl, h⟩ := h
  rcases h with ⟨h0, rfl⟩ | ⟨off, cap, cur, rfl, h2, h3, h4, h5⟩
  · have : r = [] := List.eq_nil_of_length_eq_zero h0
    subst this
    exact ⟨none, 0, rfl, by simp, Lib.hid fun j hj => absurd hj (by simp)⟩
  · refine ⟨_, cap, rfl, h3, Lib.hid fun j hj => ⟨g, off, rfl, lt_of_block h2, ?_⟩⟩
    rw [cell_of_row w g _ cur 3 (0, 0) h2, h5 j (by simpa [YtngdbhncafnliaaGreat.nats] using hj)]
    simp [YtngdbhncafnliaaGreat.nats]
/-- The cells of names. -/
def nms (r : List (List UInt8)) : List Value := r.map fun n => .string (Mt.str n)
theorem Tryz.infoStr13 : (Tryz.prog.info? 9).map (fun i => (i.zero, i.size, i.bytes)) = some (some (.string ByteArray.empty), 1, 16) := by kernel_rfl
theorem nms_one (r : List (List UInt8)) : ∀ u ∈ nms r, u.oneCell' = true := by
  intro u hu; simp only [nms, List.mem_map] at hu; obtain ⟨x, _, rfl⟩ := hu; rfl
theorem IsOwn.nms {base : Nat} {w : World} {v : Value} {r : List (List UInt8)} (h : IsOwn 9 1 base w v r.length (nms r)) : IsNms w v r := by
  obtain ⟨g, _, hl, h⟩ := h
  rcases h with ⟨h0, rfl⟩ | ⟨off, cap, cur, rfl, h2, h3, h4, h5⟩
  · have : r = [] := List.eq_nil_of_length_eq_zero h0
    subst this
    exact ⟨none, 0, rfl, by simp, Lib.hid fun j hj => absurd hj (by simp)⟩
  · refine ⟨_, cap, rfl, h3, Lib.hid fun j hj => ⟨g, off, rfl, lt_of_block h2, ?_⟩⟩
    rw [cell_of_row w g _ cur 9 (0, 0) h2, h5 j (by simpa [YtngdbhncafnliaaGreat.nms] using hj)]
    simp [YtngdbhncafnliaaGreat.nms]
/-- The names of a chain. -/
def Mt.chainN (s : Mt.Sc) (n : List UInt8) : List (List UInt8) := (Mt.chain s n).map fun (i : Nat) => (Mt.clI s (i : Int)).name
theorem Mt.chain_lt (s : Mt.Sc) (n : List UInt8) : ∀ j ∈ Mt.chain s n, j < s.classes.length := Mt.chainF_lt s _ _ (Mt.clAt_range s n).2
theorem Mt.chainF_len (s : Mt.Sc) : ∀ (n : Nat) (i : Int), (Mt.chainF s n i).length ≤ n
  | 0, i => by simp [Mt.chainF]
  | n + 1, i => by
    unfold Mt.chainF
    split
    · simp
    · have := Mt.chainF_len s n (Mt.supAt s i.toNat)
      rw [List.length_cons]; omega
theorem Mt.chain_len (s : Mt.Sc) (n : List UInt8) : (Mt.chain s n).length ≤ s.classes.length := Mt.chainF_len s _ _
/-- The name of a class. -/
theorem name_at {tv cv : Value} {s : Mt.Sc} {w : World} (h : IsSc w tv cv s) {a : Option Addr} {n cap : Nat} (hv : cv = .slice a n cap) (j : Nat) (hj : j < s.classes.length) :
    ∃ b off, a = some ⟨b, off, none⟩ ∧ b < w.heap.size ∧ Hid (∀ u, Below w.heap.size w u → u.cell? ⟨b, off + j * 5, none⟩ = some (.string (Mt.str (Mt.clI s (j : Int)).name)) ∧ u.cell? ⟨b, off + j * 5 + 2, none⟩ = some (.int .i64 (Mt.clI s (j : Int)).kind)) := by
  obtain ⟨a', cap', hv', hcap, hcell⟩ := h.classes
  obtain ⟨b', off', m, y, e0, hbl, h0, h1, h2, h3, h4, h5, h6⟩ := hcell.out j hj
  rw [hv'] at hv
  cases hv
  rw [Mt.clI_get hj]
  exact ⟨b', off', e0, hbl, Lib.hid fun u hu => ⟨(hu.cell (p := ⟨b', _, none⟩) hbl).trans h0, (hu.cell (p := ⟨b', _, none⟩) hbl).trans h2⟩⟩
end Go.Proofs.YtngdbhncafnliaaGreat

/-
  The structural ones among classes; which one's chain has them all.
-/
namespace Go.Proofs.YtngdbhncafnliaaGreat
open Go.RowKit

namespace Mt
def structF (s : Sc) : List (List UInt8) → List Nat → Option (List Nat)
  | [], out => some out
  | n :: r, out => if clAt s n < 0 then none else if (clI s (clAt s n)).kind = 1 ∧ (clAt s n).toNat ∉ out then structF s r (out ++ [(clAt s n).toNat]) else structF s r out
def hasAll (l : List Nat) (c : List Nat) : Bool := l.all fun o => decide (o ∈ c)
def kindL (s : Sc) (l : List Nat) : Option Nat := l.find? fun (a : Nat) => hasAll l (chain s (clI s (a : Int)).name)
def kindS (s : Sc) (cs : List (List UInt8)) : List UInt8 × Bool := match structF s cs [] with
  | none => ([], false)
  | some l => match kindL s l with
    | some a => ((clI s (a : Int)).name, true)
    | none => ([], false)
end Mt
/-- The classes' names. -/
def FitN (cs : List (List UInt8)) : Prop := cs.length ≤ 8796093022208 ∧ ∀ n ∈ cs, n.length ≤ 140737488351232
theorem Mt.structF_step (s : Mt.Sc) (n : List UInt8) (r : List (List UInt8)) (out : List Nat) : Mt.structF s (n :: r) out = if Mt.clAt s n < 0 then none else if (Mt.clI s (Mt.clAt s n)).kind = 1 ∧ (Mt.clAt s n).toNat ∉ out then Mt.structF s r (out ++ [(Mt.clAt s n).toNat]) else Mt.structF s r out := rfl
def StructP (w : World) (cn m : Nat) (R : Option (List Nat)) (e : Ending) (w' : World) : Prop := match R with
  | none => e = Ending.returned (.tuple #[.slice none 0 0, .bool false])
  | some l => ∃ o, e = Ending.returned (.tuple #[o, .bool true]) ∧ IsOwn 3 1 w.heap.size w' o l.length (nats l) ∧ (∀ j ∈ l, j < cn) ∧ l.length ≤ m
theorem StructP.none {w w' : World} {cn m : Nat} {R : Option (List Nat)} (h : R = none) {e : Ending} (he : e = Ending.returned (.tuple #[.slice none 0 0, .bool false])) : StructP w cn m R e w' := by subst h; exact he
theorem StructP.some {w w' : World} {cn m : Nat} {R : Option (List Nat)} {l : List Nat} (h : R = some l) {e : Ending} {o : Value} (he : e = Ending.returned (.tuple #[o, .bool true])) (ho : IsOwn 3 1 w.heap.size w' o l.length (nats l)) (h1 : ∀ j ∈ l, j < cn) (h2 : l.length ≤ m) : StructP w cn m R e w' := by subst h; exact ⟨o, he, ho, h1, h2⟩
end Go.Proofs.YtngdbhncafnliaaGreat

/-
  The structural class of some classes.
-/
namespace Go.Proofs.YtngdbhncafnliaaGreat
open Go.RowKit

theorem Mt.kindL_step (s : Mt.Sc) (l : List Nat) (i : Nat) (h : i < l.length) (A : List Nat) : (l.drop i).find? (fun (a : Nat) => Mt.hasAll A (Mt.chain s (Mt.clI s (a : Int)).name)) = if Mt.hasAll A (Mt.chain s (Mt.clI s (l[i] : Int)).name) = true then some l[i] else (l.drop (i + 1)).find? (fun (a : Nat) => Mt.hasAll A (Mt.chain s (Mt.clI s (a : Int)).name)) := by
  rw [List.drop_eq_getElem_cons h, List.find?_cons]
  cases Mt.hasAll A (Mt.chain s (Mt.clI s (l[i] : Int)).name) <;> rfl
theorem Mt.hasAll_step (l c : List Nat) (i : Nat) (h : i < l.length) : Mt.hasAll (l.drop i) c = (decide (l[i] ∈ c) && Mt.hasAll (l.drop (i + 1)) c) := by
  rw [List.drop_eq_getElem_cons h]; rfl
def KindP (s : Mt.Sc) (K : Option Nat) : Value := match K with
  | some a => .tuple #[.string (Mt.str (Mt.clI s (a : Int)).name), .bool true]
  | none => .tuple #[.string ⟨#[]⟩, .bool false]
def kindV (o : List UInt8 × Bool) : Value := .tuple #[.string (Mt.str o.1), .bool o.2]
theorem kindV_none {s : Mt.Sc} {cs : List (List UInt8)} (h : Mt.structF s cs [] = none) : kindV (Mt.kindS s cs) = .tuple #[.string ⟨#[]⟩, .bool false] := by unfold Mt.kindS; rw [h]; rfl
theorem kindV_some {s : Mt.Sc} {cs : List (List UInt8)} {l : List Nat} (h : Mt.structF s cs [] = some l) : kindV (Mt.kindS s cs) = KindP s (Mt.kindL s l) := by
  unfold Mt.kindS; rw [h]
  show kindV (match Mt.kindL s l with
    | some a => ((Mt.clI s (a : Int)).name, true)
    | none => ([], false)) = _
  cases Mt.kindL s l <;> rfl
end Go.Proofs.YtngdbhncafnliaaGreat
