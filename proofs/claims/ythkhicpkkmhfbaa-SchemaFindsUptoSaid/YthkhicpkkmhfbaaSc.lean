/-
  Schemas in memory.
-/
import Derived.Test.YthkhicpkkmhfbaaScMath
import Derived.Test.YthkhicpkkmhfbaaGp
import Derived.Test.YthkhicpkkmhfbaaFold
import Derived.Deep.RegionHeld3
import Derived.Deep.RegionLaw
import Derived.Deep.Cut
import Derived.Deep.QuietTactic
import Derived.BigQuiet
namespace Go.Proofs.Ythkhicpkkmhfbaa
open Go.RowKit

/-- Names in a slice. -/
def IsNms (w : World) (v : Value) (l : List (List UInt8)) : Prop := ∃ a cap, v = .slice a l.length cap ∧ l.length ≤ cap ∧ Hid (∀ j (hj : j < l.length), ∃ b off, a = some ⟨b, off, none⟩ ∧ b < w.heap.size ∧ w.cell? ⟨b, off + j, none⟩ = some (.string (Mt.str l[j])))
/-- Types in a slice. -/
def IsTys (w : World) (v : Value) (l : List Mt.Ty) : Prop := ∃ a cap, v = .slice a l.length cap ∧ l.length ≤ cap ∧ Hid (∀ j (hj : j < l.length), ∃ b off, a = some ⟨b, off, none⟩ ∧ b < w.heap.size ∧ w.cell? ⟨b, off + j * 4, none⟩ = some (.string (Mt.str l[j].name)) ∧ w.cell? ⟨b, off + j * 4 + 1, none⟩ = some (.int .i64 l[j].syn) ∧ w.cell? ⟨b, off + j * 4 + 2, none⟩ = some (.bool l[j].single) ∧ w.cell? ⟨b, off + j * 4 + 3, none⟩ = some (.bool l[j].oper))
/-- Classes in a slice. -/
def IsCls (w : World) (v : Value) (l : List Mt.Cl) : Prop := ∃ a cap, v = .slice a l.length cap ∧ l.length ≤ cap ∧ Hid (∀ j (hj : j < l.length), ∃ b off m y, a = some ⟨b, off, none⟩ ∧ b < w.heap.size ∧ w.cell? ⟨b, off + j * 5, none⟩ = some (.string (Mt.str l[j].name)) ∧ w.cell? ⟨b, off + j * 5 + 1, none⟩ = some (.string (Mt.str l[j].sup)) ∧ w.cell? ⟨b, off + j * 5 + 2, none⟩ = some (.int .i64 l[j].kind) ∧ w.cell? ⟨b, off + j * 5 + 3, none⟩ = some m ∧ w.cell? ⟨b, off + j * 5 + 4, none⟩ = some y ∧ IsNms w m l[j].must ∧ IsNms w y l[j].may)
section
variable {w u : World} {v : Value}
theorem IsNms.below {l : List (List UInt8)} (h : IsNms w v l) (hb : Below w.heap.size w u) : IsNms u v l := by
  obtain ⟨a, cap, e, hc, h⟩ := h
  refine ⟨a, cap, e, hc, Lib.hid fun j hj => ?_⟩
  obtain ⟨b, off, h0, h1, h2⟩ := h.out j hj
  exact ⟨b, off, h0, Nat.lt_of_lt_of_le h1 hb.size, (hb.cell (p := ⟨b, _, none⟩) h1).trans h2⟩
theorem IsTys.below {l : List Mt.Ty} (h : IsTys w v l) (hb : Below w.heap.size w u) : IsTys u v l := by
  obtain ⟨a, cap, e, hc, h⟩ := h
  refine ⟨a, cap, e, hc, Lib.hid fun j hj => ?_⟩
  obtain ⟨b, off, h0, h1, h2, h3, h4, h5⟩ := h.out j hj
  exact ⟨b, off, h0, Nat.lt_of_lt_of_le h1 hb.size, (hb.cell (p := ⟨b, _, none⟩) h1).trans h2, (hb.cell (p := ⟨b, _, none⟩) h1).trans h3, (hb.cell (p := ⟨b, _, none⟩) h1).trans h4, (hb.cell (p := ⟨b, _, none⟩) h1).trans h5⟩
theorem IsCls.below {l : List Mt.Cl} (h : IsCls w v l) (hb : Below w.heap.size w u) : IsCls u v l := by
  obtain ⟨a, cap, e, hc, h⟩ := h
  refine ⟨a, cap, e, hc, Lib.hid fun j hj => ?_⟩
  obtain ⟨b, off, m, y, h0, h1, h2, h3, h4, h5, h6, h7, h8⟩ := h.out j hj
  exact ⟨b, off, m, y, h0, Nat.lt_of_lt_of_le h1 hb.size, (hb.cell (p := ⟨b, _, none⟩) h1).trans h2, (hb.cell (p := ⟨b, _, none⟩) h1).trans h3, (hb.cell (p := ⟨b, _, none⟩) h1).trans h4, (hb.cell (p := ⟨b, _, none⟩) h1).trans h5, (hb.cell (p := ⟨b, _, none⟩) h1).trans h6, h7.below hb, h8.below hb⟩
end
/-- A schema's two slices; what it says fits into memory. -/
structure IsSc (w : World) (tv cv : Value) (s : Mt.Sc) : Prop where
  types : IsTys w tv s.types
  classes : IsCls w cv s.classes
  tlen : s.types.length ≤ 4398046511104
  clen : s.classes.length ≤ 4398046511104
  tnm : ∀ t ∈ s.types, t.name.length ≤ 140737488351232
  cnm : ∀ c ∈ s.classes, c.name.length ≤ 140737488351232 ∧ c.sup.length ≤ 140737488351232 ∧ c.must.length ≤ 8796093022208 ∧ c.may.length ≤ 8796093022208 ∧ (∀ n ∈ c.must, n.length ≤ 140737488351232) ∧ ∀ n ∈ c.may, n.length ≤ 140737488351232
theorem IsSc.below {w u : World} {tv cv : Value} {s : Mt.Sc} (h : IsSc w tv cv s) (hb : Below w.heap.size w u) : IsSc u tv cv s := ⟨h.types.below hb, h.classes.below hb, h.tlen, h.clen, h.tnm, h.cnm⟩

theorem Below.drewS {B : Nat} {a w : World} (h : Below B a w) (m : Nat) : Below B a (w.drewN m) := ⟨h.os, h.tape, h.output, h.size, h.block⟩
set_option maxRecDepth 100000 in
/-- What tells whether a name is that one. -/
theorem alikeF_any (o n : List UInt8) (p q : Nat) (w : World) (hp : w.cell? ⟨p, 0, none⟩ = some (.string (Mt.str n))) (hq : w.cell? ⟨q, 0, none⟩ = some (.string (Mt.str (Mt.foldL n)))) (ho : o.length ≤ 140737488351232) :
    Calls Try.prog 65 #[.string (Mt.str o), .pointer (some ⟨p, 0, none⟩), .pointer (some ⟨q, 0, none⟩)] w fun e w' => e = .returned (.bool (Mt.sameN o n)) ∧ Below w.heap.size w w' := by
  have hlp := World.block_lt_of_cell? w ⟨p, 0, none⟩ hp
  have hlq := World.block_lt_of_cell? w ⟨q, 0, none⟩ hq
  have HF := Lib.hid (fun u => fold_any (Mt.str o) u (by rw [Mt.str_size]; omega))
  rw [Mt.str_data] at HF
  have HS : Hid ((Mt.str o).size = o.length ∧ (Mt.str n).size = n.length) := Lib.hid ⟨Mt.str_size o, Mt.str_size n⟩
  have HCC := Lib.hid (fun (u : World) (hb : Below w.heap.size w u) => And.intro ((hb.cell (p := ⟨p, 0, none⟩) hlp).trans hp) ((hb.cell (p := ⟨q, 0, none⟩) hlq).trans hq))
  obtain ⟨r, hr⟩ : ∃ r, Mt.sameN o n = r := ⟨_, rfl⟩
  rw [hr]
  by_cases hl : (Mt.str o).size = (Mt.str n).size
  · have e1 : (((Mt.str o).size : Int) == ((Mt.str n).size : Int)) = true := beq_iff_eq.2 (by omega)
    have HR : Hid (((Mt.str (o.map Mt.sm)).toList == (Mt.str (Mt.foldL n)).toList) = r) := Lib.hid (by
      rw [ByteArray.toList_eq, ByteArray.toList_eq, Mt.str_data, Mt.str_data, ← hr]
      unfold Mt.sameN
      rw [Bool.eq_iff_iff, beq_iff_eq, decide_eq_true_eq]; rfl)
    generalize Mt.str (o.map Mt.sm) = FO at *
    generalize Mt.str (Mt.foldL n) = FN at *
    generalize Mt.str o = O at *
    generalize Mt.str n = N at *
    clear hr ho
    go_enter Try.func65, Try.ntmps65
    go_upto_region 1 with fail
    have HB0 := Lib.hid ((Below.refl w.heap.size w).drew)
    obtain ⟨p1, p2⟩ := HCC.out w (Below.refl _ _)
    go_region_held3 (fun w' => w'.cell? ⟨p, 0, none⟩ = some (.string N) ∧ w'.cell? ⟨q, 0, none⟩ = some (.string FN))
      (first
        | go_keep
        | exact ⟨q1, q2⟩)
      (first
        | (go_at_call 59; refine (HF.out _).mono ?_; rintro e w2 ⟨rfl, hb⟩; have HB := Lib.hid (HB0.out.trans (hb.mono (by simp))); obtain ⟨q1, q2⟩ := HCC.out _ HB.out; clear hb))
    go_wp2_with fail
    go_ret
    exact ⟨Mt.ret_bool HR.out, HB.out⟩
  · have e1 : (((Mt.str o).size : Int) == ((Mt.str n).size : Int)) = false := beq_eq_false_iff_ne.2 (by omega)
    have HR : Hid (false = r) := Lib.hid (by
      rw [← hr]; symm
      unfold Mt.sameN
      refine decide_eq_false fun h => hl ?_
      have := congrArg List.length h
      unfold Mt.foldL at this
      rw [List.length_map, List.length_map] at this
      rw [Mt.str_size, Mt.str_size]; exact this)
    generalize Mt.str (o.map Mt.sm) = FO at *
    generalize Mt.str (Mt.foldL n) = FN at *
    generalize Mt.str o = O at *
    generalize Mt.str n = N at *
    clear hr ho hl HF
    obtain ⟨p1, p2⟩ := HCC.out w (Below.refl _ _)
    go_enter Try.func65, Try.ntmps65
    go_upto_region 1 with fail
    go_quiet (fail)
    go_wp2_with fail
    go_ret
    exact ⟨Mt.ret_bool HR.out, Below.drewS (Below.refl w.heap.size w) _⟩
end Go.Proofs.Ythkhicpkkmhfbaa
