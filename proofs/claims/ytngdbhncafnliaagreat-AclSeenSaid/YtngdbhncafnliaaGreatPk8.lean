/-
  Some texts of one proof, one behind the other.
-/
import Derived.Deep.RegionHeld3
import Derived.Deep.RegionLaw
import Derived.Deep.Cut
import Derived.Deep.QuietTactic
import Derived.BigQuiet
import Derived.Laws.EntriesVeiled
import Derived.Test.YtngdbhncafnliaaGreatPk0
import Derived.Test.YtngdbhncafnliaaGreatPk6
import Derived.Test.YtngdbhncafnliaaGreatPk7
set_option linter.unusedVariables false
set_option linter.unusedSimpArgs false

/-
  Schemas in memory.
-/
namespace Go.Proofs.YtngdbhncafnliaaGreat
open Go.RowKit

/-- Names in a slice. -/
def IsNms (w : World) (v : Value) (l : List (List UInt8)) : Prop := ∃ a cap, v = .slice a l.length cap ∧ l.length ≤ cap ∧ Hid (∀ j (hj : j < l.length), ∃ b off, a = some ⟨b, off, none⟩ ∧ b < w.heap.size ∧ w.cell? ⟨b, off + j, none⟩ = some (.string (Mt.str l[j])))
/-- Types in a slice. -/
def IsTys (w : World) (v : Value) (l : List Mt.Ty) : Prop := ∃ a cap, v = .slice a l.length cap ∧ l.length ≤ cap ∧ Hid (∀ j (hj : j < l.length), ∃ b off, a = some ⟨b, off, none⟩ ∧ b < w.heap.size ∧ w.cell? ⟨b, off + j * 4, none⟩ = some (.string (Mt.str l[j].name)) ∧ w.cell? ⟨b, off + j * 4 + 1, none⟩ = some (.int .i64 l[j].syn) ∧ w.cell? ⟨b, off + j * 4 + 2, none⟩ = some (.bool l[j].single) ∧ w.cell? ⟨b, off + j * 4 + 3, none⟩ = some (.bool l[j].oper))
/-- Classes in a slice. -/
def IsCls (w : World) (v : Value) (l : List Mt.Cl) : Prop := ∃ a cap, v = .slice a l.length cap ∧ l.length ≤ cap ∧ Hid (∀ j (hj : j < l.length), ∃ b off m y, a = some ⟨b, off, none⟩ ∧ b < w.heap.size ∧ w.cell? ⟨b, off + j * 5, none⟩ = some (.string (Mt.str l[j].name)) ∧ w.cell? ⟨b, off + j * 5 + 1, none⟩ = some (.string (Mt.str l[j].sup)) ∧ w.cell? ⟨b, off + j * 5 + 2, none⟩ = some (.int .i64 l[j].kind) ∧ w.cell? ⟨b, off + j * 5 + 3, none⟩ = some m ∧ w.cell? ⟨b, off + j * 5 + 4, none⟩ = some y ∧ IsNms w m l[j].must ∧ IsNms w y l[j].may)
section
variable {w u : World} {v : Value}
theorem IsNms.below {l : List (List UInt8)} (h : IsNms w v l) (hb : Below w.heap.size w u) : IsNms u v l := by
  obtain ⟨a, cap, e, hc, h⟩ := h
  refine ⟨a, cap, e, hc, Lib.hid fun j hj => ?_⟩
  obtain ⟨b, off, h0, h1, h2⟩ := h.out j hj
  exact ⟨b, off, h0, Nat.lt_of_lt_of_le h1 hb.size, (hb.cell (p := ⟨b, _, none⟩) h1).trans h2⟩
theorem IsTys.below {l : List Mt.Ty} (h : IsTys w v l) (hb : Below w.heap.size w u) : IsTys u v l := by
  obtain ⟨a, cap, e, hc, h⟩ := h
  refine ⟨a, cap, e, hc, Lib.hid fun j hj => ?_⟩
  obtain ⟨b, off, h0, h1, h2, h3, h4, h5⟩ := h.out j hj
  exact ⟨b, off, h0, Nat.lt_of_lt_of_le h1 hb.size, (hb.cell (p := ⟨b, _, none⟩) h1).trans h2, (hb.cell (p := ⟨b, _, none⟩) h1).trans h3, (hb.cell (p := ⟨b, _, none⟩) h1).trans h4, (hb.cell (p := ⟨b, _, none⟩) h1).trans h5⟩
theorem IsCls.below {l : List Mt.Cl} (h : IsCls w v l) (hb : Below w.heap.size w u) : IsCls u v l := by
  obtain ⟨a, cap, e, hc, h⟩ := h
  refine ⟨a, cap, e, hc, Lib.hid fun j hj => ?_⟩
  obtain ⟨b, off, m, y, h0, h1, h2, h3, h4, h5, h6, h7, h8⟩ := h.out j hj
  exact ⟨b, off, m, y, h0, Nat.lt_of_lt_of_le h1 hb.size, (hb.cell (p := ⟨b, _, none⟩) h1).trans h2, (hb.cell (p := ⟨b, _, none⟩) h1).trans h3, (hb.cell (p := ⟨b, _, none⟩) h1).trans h4, (hb.cell (p := ⟨b, _, none⟩) h1).trans h5, (hb.cell (p := ⟨b, _, none⟩) h1).trans h6, h7.below hb, h8.below hb⟩
end
/-- A schema's two slices; what it says fits into memory. -/
structure IsSc (w : World) (tv cv : Value) (s : Mt.Sc) : Prop where
  types : IsTys w tv s.types
  classes : IsCls w cv s.classes
  tlen : s.types.length ≤ 4398046511104
  clen : s.classes.length ≤ 4398046511104
  tnm : ∀ t ∈ s.types, t.name.length ≤ 140737488351232
  cnm : ∀ c ∈ s.classes, c.name.length ≤ 140737488351232 ∧ c.sup.length ≤ 140737488351232 ∧ c.must.length ≤ 8796093022208 ∧ c.may.length ≤ 8796093022208 ∧ (∀ n ∈ c.must, n.length ≤ 140737488351232) ∧ ∀ n ∈ c.may, n.length ≤ 140737488351232
theorem IsSc.below {w u : World} {tv cv : Value} {s : Mt.Sc} (h : IsSc w tv cv s) (hb : Below w.heap.size w u) : IsSc u tv cv s := ⟨h.types.below hb, h.classes.below hb, h.tlen, h.clen, h.tnm, h.cnm⟩

theorem Below.drewS {B : Nat} {a w : World} (h : Below B a w) (m : Nat) : Below B a (w.drewN m) := ⟨h.os, h.tape, h.output, h.size, h.block⟩
set_option maxRecDepth 100000 in
/-- What tells whether a name is that one. -/
theorem alikeF_any (o n : List UInt8) (p q : Nat) (w : World) (hp : w.cell? ⟨p, 0, none⟩ = some (.string (Mt.str n))) (hq : w.cell? ⟨q, 0, none⟩ = some (.string (Mt.str (Mt.foldL n)))) (ho : o.length ≤ 140737488351232) :
    Calls Tryz.prog 123 #[.string (Mt.str o), .pointer (some ⟨p, 0, none⟩), .pointer (some ⟨q, 0, none⟩)] w fun e w' => e = .returned (.bool (Mt.sameN o n)) ∧ Below w.heap.size w w' := by
  have hlp := World.block_lt_of_cell? w ⟨p, 0, none⟩ hp
  have hlq := World.block_lt_of_cell? w ⟨q, 0, none⟩ hq
  have HF := Lib.hid (fun u => fold_any (Mt.str o) u (by rw [Mt.str_size]; omega))
  rw [Mt.str_data] at HF
  have HS : Hid ((Mt.str o).size = o.length ∧ (Mt.str n).size = n.length) := Lib.hid ⟨Mt.str_size o, Mt.str_size n⟩
  have HCC := Lib.hid (fun (u : World) (hb : Below w.heap.size w u) => And.intro ((hb.cell (p := ⟨p, 0, none⟩) hlp).trans hp) ((hb.cell (p := ⟨q, 0, none⟩) hlq).trans hq))
  obtain ⟨r, hr⟩ : ∃ r, Mt.sameN o n = r := ⟨_, rfl⟩
  rw [hr]
  by_cases hl : (Mt.str o).size = (Mt.str n).size
  · have e1 : (((Mt.str o).size : Int) == ((Mt.str n).size : Int)) = true := beq_iff_eq.2 (by omega)
    have HR : Hid (((Mt.str (o.map Mt.sm)).toList == (Mt.str (Mt.foldL n)).toList) = r) := Lib.hid (by
      rw [ByteArray.toList_eq, ByteArray.toList_eq, Mt.str_data, Mt.str_data, ← hr]
      unfold Mt.sameN
      rw [Bool.eq_iff_iff, beq_iff_eq, decide_eq_true_eq]; rfl)
    generalize Mt.str (o.map Mt.sm) = FO at *
    generalize Mt.str (Mt.foldL n) = FN at *
    generalize Mt.str o = O at *
    generalize Mt.str n = N at *
    clear hr ho
    go_enter Tryz.func123, Tryz.ntmps123
    go_upto_region 1 with fail
    have HB0 := Lib.hid ((Below.refl w.heap.size w).drew)
    obtain ⟨p1, p2⟩ := HCC.out w (Below.refl _ _)
    go_region_held3 (fun w' => w'.cell? ⟨p, 0, none⟩ = some (.string N) ∧ w'.cell? ⟨q, 0, none⟩ = some (.string FN))
      (first
        | go_keep
        | exact ⟨q1, q2⟩)
      (first
        | (go_at_call 41; refine (HF.out _).mono ?_; rintro e w2 ⟨rfl, hb⟩; have HB := Lib.hid (HB0.out.trans (hb.mono (by simp))); obtain ⟨q1, q2⟩ := HCC.out _ HB.out; clear hb))
    go_wp2_with fail
    go_ret
    exact ⟨Mt.ret_bool HR.out, HB.out⟩
  · have e1 : (((Mt.str o).size : Int) == ((Mt.str n).size : Int)) = false := beq_eq_false_iff_ne.2 (by omega)
    have HR : Hid (false = r) := Lib.hid (by
      rw [← hr]; symm
      unfold Mt.sameN
      refine decide_eq_false fun h => hl ?_
      have := congrArg List.length h
      unfold Mt.foldL at this
      rw [List.length_map, List.length_map] at this
      rw [Mt.str_size, Mt.str_size]; exact this)
    generalize Mt.str (o.map Mt.sm) = FO at *
    generalize Mt.str (Mt.foldL n) = FN at *
    generalize Mt.str o = O at *
    generalize Mt.str n = N at *
    clear hr ho hl HF
    obtain ⟨p1, p2⟩ := HCC.out w (Below.refl _ _)
    go_enter Tryz.func123, Tryz.ntmps123
    go_upto_region 1 with fail
    go_quiet (fail)
    go_wp2_with fail
    go_ret
    exact ⟨Mt.ret_bool HR.out, Below.drewS (Below.refl w.heap.size w) _⟩
end Go.Proofs.YtngdbhncafnliaaGreat

/-
  Where a name stands among types.
-/
namespace Go.Proofs.YtngdbhncafnliaaGreat
open Go.RowKit

/-- A function that tells whether a name is that one, and what it reads. -/
def IsAlike (w : World) (f : Value) (n : List UInt8) : Prop := ∃ p q, f = .func (.func 123) #[] #[.pointer (some ⟨p, 0, none⟩), .pointer (some ⟨q, 0, none⟩)] ∧ w.cell? ⟨p, 0, none⟩ = some (.string (Mt.str n)) ∧ w.cell? ⟨q, 0, none⟩ = some (.string (Mt.str (Mt.foldL n)))
theorem IsAlike.below {w u : World} {f : Value} {n : List UInt8} (h : IsAlike w f n) (hb : Below w.heap.size w u) : IsAlike u f n := by
  obtain ⟨p, q, e, h1, h2⟩ := h
  exact ⟨p, q, e, (hb.cell (p := ⟨p, 0, none⟩) (World.block_lt_of_cell? w ⟨p, 0, none⟩ h1)).trans h1, (hb.cell (p := ⟨q, 0, none⟩) (World.block_lt_of_cell? w ⟨q, 0, none⟩ h2)).trans h2⟩
set_option maxRecDepth 100000 in
theorem alike_any (n : List UInt8) (hn : n.length ≤ 140737488351232) (w : World) : Calls Tryz.prog 104 #[.string (Mt.str n)] w fun e w' => ∃ f, e = .returned f ∧ IsAlike w' f n ∧ Below w.heap.size w w' := by
  have HF := Lib.hid (fun u => fold_any (Mt.str n) u (by rw [Mt.str_size]; omega))
  rw [Mt.str_data] at HF
  have hfe : Mt.str (n.map Mt.sm) = Mt.str (Mt.foldL n) := rfl
  rw [hfe] at HF
  have HA := Lib.hid ((Below.refl w.heap.size w).alloc (Nat.le_refl _) (.cells #[.string (Mt.str n)] 9))
  have HP : Hid (∀ u, Below (w.heap.size + 1) (w.alloc (.cells #[.string (Mt.str n)] 9)) u → u.cell? ⟨w.heap.size, 0, none⟩ = some (.string (Mt.str n))) := Lib.hid (fun u hu => by
    have hrow := (hu.block w.heap.size (by omega)).trans (heap_alloc_new w (.cells #[.string (Mt.str n)] 9))
    rw [cell_of_row _ _ _ _ _ _ hrow]; rfl)
  have HPOST : Hid (∀ (u : World) (q : Nat), Below w.heap.size w u → u.cell? ⟨w.heap.size, 0, none⟩ = some (.string (Mt.str n)) → u.cell? ⟨q, 0, none⟩ = some (.string (Mt.str (Mt.foldL n))) → ∃ f, Ending.returned (.func (.func 123) #[] #[.pointer (some ⟨w.heap.size, 0, none⟩), .pointer (some ⟨q, 0, none⟩)]) = .returned f ∧ IsAlike u f n ∧ Below w.heap.size w u) := Lib.hid (fun u q h1 h2 h3 => ⟨_, rfl, ⟨_, _, rfl, h2, h3⟩, h1⟩)
  generalize Mt.str (Mt.foldL n) = FN at *
  generalize Mt.str n = N at *
  clear hfe hn
  go_enter Tryz.func104, Tryz.ntmps104
  have p0 := HP.out _ (Below.refl _ _)
  go_wp2_with fail
  refine (HF.out _).mono ?_
  rintro e w2 ⟨rfl, hb⟩
  have HB2 := Lib.hid (HA.out.trans (hb.mono (by simp)))
  have HB3 := Lib.hid (HB2.out.alloc HB2.out.size (.cells #[.string FN] 9))
  have hq := (HP.out w2 (hb.mono (by simp)))
  have hbn : Below w2.heap.size w2 (w2.alloc (.cells #[.string FN] 9)) := (Below.refl _ _).alloc (Nat.le_refl _) _
  have q1 := (hbn.cell (p := ⟨w.heap.size, 0, none⟩) (World.block_lt_of_cell? w2 ⟨w.heap.size, 0, none⟩ hq)).trans hq
  have q2 : (w2.alloc (.cells #[.string FN] 9)).cell? ⟨w2.heap.size, 0, none⟩ = some (.string FN) := by rw [cell_of_row _ _ _ _ _ _ (heap_alloc_new w2 _)]; rfl
  have HFIN := Lib.hid (HPOST.out _ _ HB3.out q1 q2)
  clear hb hq hbn q1 q2 p0
  go_wp2_with fail
  go_ret
  exact HFIN.out
set_option maxRecDepth 100000 in
theorem typeAtF_any (t : Mt.Ty) (n : List UInt8) (c : Nat) (f : Value) (w : World) (hc : w.cell? ⟨c, 0, none⟩ = some f) (hf : IsAlike w f n) (ht : t.name.length ≤ 140737488351232) :
    Calls Tryz.prog 106 #[.agg #[.string (Mt.str t.name), .int .i64 t.syn, .bool t.single, .bool t.oper], .pointer (some ⟨c, 0, none⟩)] w fun e w' => e = .returned (.bool (Mt.sameN t.name n)) ∧ Below w.heap.size w w' := by
  have hlc := World.block_lt_of_cell? w ⟨c, 0, none⟩ hc
  obtain ⟨p, q, rfl, hp, hq⟩ := hf
  have hlp := World.block_lt_of_cell? w ⟨p, 0, none⟩ hp
  have hlq := World.block_lt_of_cell? w ⟨q, 0, none⟩ hq
  have HK := Lib.hid (fun (u : World) (hb : Below w.heap.size w u) => alikeF_any t.name n p q u ((hb.cell (p := ⟨p, 0, none⟩) hlp).trans hp) ((hb.cell (p := ⟨q, 0, none⟩) hlq).trans hq) (by omega))
  have HA := Lib.hid ((Below.refl w.heap.size w).alloc (Nat.le_refl _) (.cells #[.string (Mt.str t.name), .int .i64 t.syn, .bool t.single, .bool t.oper] 71))
  have p0 := (HA.out.cell (p := ⟨c, 0, none⟩) hlc).trans hc
  have p1 : (w.alloc (.cells #[.string (Mt.str t.name), .int .i64 t.syn, .bool t.single, .bool t.oper] 71)).cell? ⟨w.heap.size, 0, none⟩ = some (.string (Mt.str t.name)) := by rw [cell_of_row _ _ _ _ _ _ (heap_alloc_new w _)]; rfl
  generalize Mt.sameN t.name n = r at *
  generalize Mt.str t.name = N at *
  clear hc hlc hp hq hlp hlq ht
  go_enter Tryz.func106, Tryz.ntmps106
  go_wp2_with fail
  refine (HK.out _ HA.out).mono ?_
  rintro e w2 ⟨rfl, hb⟩
  have HB2 := Lib.hid (HA.out.trans (hb.mono HA.out.size))
  clear hb
  go_wp2_with fail
  go_ret
  exact ⟨rfl, HB2.out⟩
set_option maxRecDepth 100000 in
set_option maxHeartbeats 1000000 in
theorem indexTy_any {w : World} {v : Value} {r : List Mt.Ty} (hv : IsTys w v r) (c : Nat) (f : Value) (n : List UInt8) (hc : w.cell? ⟨c, 0, none⟩ = some f) (hf : IsAlike w f n) (hr : ∀ a ∈ r, a.name.length ≤ 140737488351232) (hn : r.length ≤ 4398046511104) :
    Calls Tryz.prog 105 #[v, .func (.func 106) #[] #[.pointer (some ⟨c, 0, none⟩)]] w fun e w' => e = .returned (.int .i64 (Mt.atL (fun t => Mt.sameN t.name n) r)) ∧ Below w.heap.size w w' := by
  obtain ⟨a, cap, rfl, hcap, hcell⟩ := hv
  have HC := Lib.hid (fun (u : World) (hb : Below w.heap.size w u) => And.intro ((hb.cell (p := ⟨c, 0, none⟩) (World.block_lt_of_cell? w ⟨c, 0, none⟩ hc)).trans hc) (hf.below hb))
  have hd := Mt.atL_spec (fun t : Mt.Ty => Mt.sameN t.name n) r
  obtain ⟨k, hk⟩ : ∃ k, Mt.atL (fun t : Mt.Ty => Mt.sameN t.name n) r = k := ⟨_, rfl⟩
  rw [hk] at hd ⊢
  have HD := Lib.hid hd
  have HR := Lib.hid hr
  clear hk hc hd hr hf
  obtain ⟨m0, hm0⟩ : ∃ m, r.length = m := ⟨_, rfl⟩
  have HL := Lib.hid hm0
  rw [hm0] at hn ⊢
  clear hm0 hcap
  go_enter Tryz.func105, Tryz.ntmps105
  go_wp2_with fail
  go_loopw [8] (fun i wr => ∃ m : Nat, m ≤ m0 ∧ i = .int .i64 m ∧ Hid (∀ j (hj : j < r.length), j < m → Mt.sameN r[j].name n = false) ∧ Hid (Below w.heap.size w wr))
    (fun i _ => m0 - (intOf i).toNat)
  case atStart => exact ⟨0, Nat.zero_le _, rfl, Lib.hid fun j _ h => absurd h (Nat.not_lt_zero _), Lib.hid (Below.refl _ _)⟩
  case round =>
    obtain ⟨m, hm, rfl, HO, HB⟩ := hrel
    by_cases hlt : m < m0
    · have hmr : m < r.length := by rw [HL.out]; exact hlt
      obtain ⟨b, off, e0, hbl, h0, h1, h2, h3⟩ := hcell.out m hmr
      obtain ⟨t, ht⟩ : ∃ t, r[m] = t := ⟨_, rfl⟩
      rw [ht] at h0 h1 h2 h3
      subst e0
      have x0 := (HB.out.cell (p := ⟨b, off + m * 4, none⟩) hbl).trans h0
      have x1 := (HB.out.cell (p := ⟨b, off + m * 4 + 1, none⟩) hbl).trans h1
      have x2 := (HB.out.cell (p := ⟨b, off + m * 4 + 2, none⟩) hbl).trans h2
      have x3 := (HB.out.cell (p := ⟨b, off + m * 4 + 3, none⟩) hbl).trans h3
      obtain ⟨hc1, hf1⟩ := HC.out wr HB.out
      have HP := Lib.hid (typeAtF_any t n c f wr hc1 hf1 (HR.out _ (by rw [← ht]; exact List.getElem_mem hmr)))
      obtain ⟨q, hq⟩ : ∃ q, Mt.sameN t.name n = q := ⟨_, rfl⟩
      rw [hq] at HP
      have HQ : Hid (Mt.sameN r[m].name n = q) := Lib.hid (by rw [ht]; exact hq)
      have HH : Hid (q = true → k = m) := Lib.hid (by
        intro h
        rcases HD.out with ⟨_, h2⟩ | ⟨m2, rfl, hm2, h3, h4⟩
        · have := h2 m hmr; rw [HQ.out, h] at this; cases this
        · by_cases e : m2 = m
          · rw [e]
          · rcases Nat.lt_or_ge m2 m with h5 | h5
            · have := HO.out m2 hm2 h5; rw [h3] at this; cases this
            · have := h4 m (by omega); rw [HQ.out, h] at this; cases this)
      have HO2 : Hid (q = false → ∀ j (hj : j < r.length), j < m + 1 → Mt.sameN r[j].name n = false) := Lib.hid (by
        intro h j hj hlt2
        by_cases e : j = m
        · subst e; rw [HQ.out, h]
        · exact HO.out j hj (by omega))
      have d1 : decide ((m : Int) < (m0 : Int)) = true := decide_eq_true (by omega)
      have d2 : decide (m < m0) = true := decide_eq_true hlt
      clear hq hc1 hf1 hbl h0 h1 h2 h3 HQ ht hmr
      go_wp2_with fail
      refine (HP.out).mono ?_
      rintro e w2 ⟨rfl, hb⟩
      have HB2 := Lib.hid (HB.out.trans (hb.mono HB.out.size))
      clear hb
      cases q
      · go_wp2_with fail
        go_roundw
        case rel => exact ⟨m + 1, by omega, by go_num, Lib.hid (HO2.out (by first | rfl | trivial)), HB2⟩
        case measure => simp [intOf]; omega
      · go_wp2_with fail
        all_goals (go_ret; exact ⟨Mt.ret_int (HH.out (by first | rfl | trivial)).symm, HB2.out⟩)
    · have HH : Hid (k = -1) := Lib.hid (by
        rcases HD.out with ⟨h1, _⟩ | ⟨m2, rfl, hm2, h3, h4⟩
        · exact h1
        · have := HO.out m2 hm2 (by have := HL.out; omega); rw [h3] at this; cases this)
      have d1 : decide ((m : Int) < (m0 : Int)) = false := decide_eq_false (by omega)
      have d2 : decide (m < m0) = false := decide_eq_false hlt
      go_wp2_with fail
      go_ret
      exact ⟨Mt.ret_int HH.out.symm, HB.out⟩
set_option maxRecDepth 100000 in
theorem typeAt_any {tv cv : Value} {s : Mt.Sc} (n : List UInt8) (hn : n.length ≤ 140737488351232) {w : World} (h : IsSc w tv cv s) :
    Calls Tryz.prog 81 #[.agg #[tv, cv], .string (Mt.str n)] w fun e w' => e = .returned (.int .i64 (Mt.tyAt s n)) ∧ Below w.heap.size w w' := by
  have HK := Lib.hid (fun u => alike_any n hn u)
  have HI := Lib.hid (fun (u : World) (hb : Below w.heap.size w u) (c : Nat) (f : Value) (hc : u.cell? ⟨c, 0, none⟩ = some f) (hf : IsAlike u f n) => indexTy_any (h.below hb).types c f n hc hf h.tnm h.tlen)
  have hmt : Mt.atL (fun t : Mt.Ty => Mt.sameN t.name n) s.types = Mt.tyAt s n := rfl
  rw [hmt] at HI
  have HA := Lib.hid ((Below.refl w.heap.size w).alloc (Nat.le_refl _) (.cells #[tv, cv] 140))
  have HP : Hid (∀ u, Below (w.heap.size + 1) (w.alloc (.cells #[tv, cv] 140)) u → u.cell? ⟨w.heap.size, 0, none⟩ = some tv) := Lib.hid (fun u hu => by
    have hrow := (hu.block w.heap.size (by omega)).trans (heap_alloc_new w (.cells #[tv, cv] 140))
    rw [cell_of_row _ _ _ _ _ _ hrow]; rfl)
  generalize Mt.tyAt s n = R at *
  generalize Mt.str n = N at *
  clear hmt hn h
  go_enter Tryz.func81, Tryz.ntmps81
  go_wp2_with fail
  refine (HK.out _).mono ?_
  rintro e w2 ⟨f, rfl, hf, hb⟩
  obtain ⟨pp, qq, rfl, -, -⟩ := id hf
  have HB2 := Lib.hid (HA.out.trans (hb.mono (by simp)))
  have hbn : Below w2.heap.size w2 (w2.alloc (.cells #[.func (.func 123) #[] #[.pointer (some ⟨pp, 0, none⟩), .pointer (some ⟨qq, 0, none⟩)]] 84)) := (Below.refl _ _).alloc (Nat.le_refl _) _
  have HB3 := Lib.hid (HB2.out.trans (hbn.mono HB2.out.size))
  have q1 := HP.out w2 (hb.mono (by simp))
  have q2 := HP.out _ ((hb.trans (hbn.mono hb.size)).mono (by simp))
  have r1 : (w2.alloc (.cells #[.func (.func 123) #[] #[.pointer (some ⟨pp, 0, none⟩), .pointer (some ⟨qq, 0, none⟩)]] 84)).cell? ⟨w2.heap.size, 0, none⟩ = some (.func (.func 123) #[] #[.pointer (some ⟨pp, 0, none⟩), .pointer (some ⟨qq, 0, none⟩)]) := by rw [cell_of_row _ _ _ _ _ _ (heap_alloc_new w2 _)]; rfl
  have HCALL := Lib.hid (HI.out _ HB3.out w2.heap.size _ r1 (hf.below hbn))
  clear hb hbn
  go_wp2_with fail
  refine (HCALL.out).mono ?_
  rintro e w3 ⟨rfl, hb⟩
  have HB4 := Lib.hid (HB3.out.trans (hb.mono HB3.out.size))
  clear hb
  go_wp2_with fail
  go_ret
  exact ⟨rfl, HB4.out⟩
end Go.Proofs.YtngdbhncafnliaaGreat

/-
  Where a name stands among classes.
-/
namespace Go.Proofs.YtngdbhncafnliaaGreat
open Go.RowKit

end Go.Proofs.YtngdbhncafnliaaGreat

/-
  Chains of classes.
-/
namespace Go.Proofs.YtngdbhncafnliaaGreat
open Go.RowKit

theorem Mt.clI_get {s : Mt.Sc} {i : Nat} (hi : i < s.classes.length) : Mt.clI s (i : Int) = s.classes[i] := by
  unfold Mt.clI
  rw [Int.toNat_natCast, List.getD_eq_getElem?_getD, List.getElem?_eq_getElem hi]; rfl
theorem Mt.tyI_get {s : Mt.Sc} {i : Nat} (hi : i < s.types.length) : Mt.tyI s (i : Int) = s.types[i] := by
  unfold Mt.tyI
  rw [Int.toNat_natCast, List.getD_eq_getElem?_getD, List.getElem?_eq_getElem hi]; rfl
theorem Mt.supAt_range {s : Mt.Sc} (i : Nat) : -1 ≤ Mt.supAt s i ∧ Mt.supAt s i < (i : Int) := by
  unfold Mt.supAt
  have := (Mt.atL_range (fun c : Mt.Cl => Mt.sameN c.name (Mt.clI s i).sup) s.classes).1
  have h2 : Mt.clAt s (Mt.clI s i).sup = Mt.atL (fun c : Mt.Cl => Mt.sameN c.name (Mt.clI s i).sup) s.classes := rfl
  split <;> omega
/-- Places. -/
def nats (l : List Nat) : List Value := l.map fun (i : Nat) => Value.int .i64 (i : Int)
theorem Tryz.infoInt13 : (Tryz.prog.info? 3).map (fun i => (i.zero, i.size, i.bytes)) = some (some (.int .i64 0), 1, 8) := by kernel_rfl
theorem Mt.chainF_neg (s : Mt.Sc) (n : Nat) {i : Int} (h : i < 0) : Mt.chainF s n i = [] := by
  cases n with
  | zero => rfl
  | succ n => unfold Mt.chainF; rw [if_pos h]
theorem Mt.chainF_pos (s : Mt.Sc) (n : Nat) {i : Int} (h : 0 ≤ i) : Mt.chainF s (n + 1) i = i.toNat :: Mt.chainF s n (Mt.supAt s i.toNat) := by
  conv => lhs; unfold Mt.chainF
  rw [if_neg (by omega)]
theorem Mt.chainF_lt (s : Mt.Sc) : ∀ (n : Nat) (i : Int), i < s.classes.length → ∀ j ∈ Mt.chainF s n i, j < s.classes.length
  | 0, _, _, j, hj => by simp [Mt.chainF] at hj
  | n + 1, i, hi, j, hj => by
    unfold Mt.chainF at hj
    split at hj
    · cases hj
    · rcases List.mem_cons.1 hj with rfl | hj
      · omega
      · exact Mt.chainF_lt s n _ (by have := (Mt.supAt_range (s := s) i.toNat).2; omega) j hj
/-- Enough is enough: a chain falls. -/
theorem Mt.chainF_more (s : Mt.Sc) : ∀ (n m : Nat) (i : Int), i < n → i < m → Mt.chainF s n i = Mt.chainF s m i
  | 0, m, i, h, _ => by rw [Mt.chainF_neg s 0 (by omega), Mt.chainF_neg s m (by omega)]
  | n + 1, 0, i, _, h => by rw [Mt.chainF_neg s _ (by omega), Mt.chainF_neg s 0 (by omega)]
  | n + 1, m + 1, i, h, h2 => by
    by_cases h0 : i < 0
    · rw [Mt.chainF_neg s _ h0, Mt.chainF_neg s _ h0]
    · have h0 : 0 ≤ i := by omega
      rw [Mt.chainF_pos s n h0, Mt.chainF_pos s m h0, Mt.chainF_more s n m _ (by have := (Mt.supAt_range (s := s) i.toNat).2; omega) (by have := (Mt.supAt_range (s := s) i.toNat).2; omega)]
theorem Mt.clAt_range (s : Mt.Sc) (n : List UInt8) : -1 ≤ Mt.clAt s n ∧ Mt.clAt s n < s.classes.length := Mt.atL_range (fun c : Mt.Cl => Mt.sameN c.name n) s.classes
theorem Mt.tyAt_range (s : Mt.Sc) (n : List UInt8) : -1 ≤ Mt.tyAt s n ∧ Mt.tyAt s n < s.types.length := Mt.atL_range (fun c : Mt.Ty => Mt.sameN c.name n) s.types
end Go.Proofs.YtngdbhncafnliaaGreat
