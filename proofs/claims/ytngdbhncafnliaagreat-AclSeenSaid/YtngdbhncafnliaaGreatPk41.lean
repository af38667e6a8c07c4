/-
  Some texts of one proof, one behind the other.
-/
import Derived.Deep.CutRange
import Derived.Test.YtngdbhncafnliaaGreatPk19
import Derived.Test.YtngdbhncafnliaaGreatPk39
import Derived.Test.YtngdbhncafnliaaGreatPk40
set_option linter.unusedVariables false
set_option linter.unusedSimpArgs false

/-
  What is wrong with a schema, as the document has it: the mathematics.
-/
namespace Go.Proofs.YtngdbhncafnliaaGreat
open Go.RowKit

namespace Mt
def tyBef (s : Sc) (i : Nat) (n : List UInt8) : Int := atL (fun t => sameN t.name n) (s.types.take i)
def clBef (s : Sc) (i : Nat) (n : List UInt8) : Int := atL (fun c => sameN c.name n) (s.classes.take i)
def rTy (s : Sc) (i : Nat) : Int :=
  if typL (tyI s i).name = false then 20 else if 0 ≤ tyBef s i (tyI s i).name then 21 else if (tyI s i).syn < 1 ∨ 8 < (tyI s i).syn then 23 else 0
def rUp (s : Sc) (i : Nat) : Int := clBef s i (clI s i).sup
def rKind (s : Sc) (i : Nat) : Bool := (decide ((clI s i).sup = []) && decide ((clI s i).kind ≠ 0)) || (decide ((clI s i).sup ≠ []) && decide ((clI s (rUp s i)).kind ≠ 0) && decide ((clI s (rUp s i)).kind ≠ (clI s i).kind))
def rCl (s : Sc) (i : Nat) : Int :=
  if typL (clI s i).name = false then 20 else if 0 ≤ clBef s i (clI s i).name then 21 else if (clI s i).kind < 0 ∨ 2 < (clI s i).kind then 23
  else if (clI s i).sup ≠ [] ∧ rUp s i < 0 then 22 else if rKind s i = true then 2 else if ((clI s i).must ++ (clI s i).may).any (lacks s) then 22 else 0
def rootL : List UInt8 := [111, 98, 106, 101, 99, 116, 99, 108, 97, 115, 115]
def rRoot (s : Sc) : Int := if tyAt s rootL < 0 then 22 else if (tyI s (tyAt s rootL)).syn ≠ 3 ∨ (tyI s (tyAt s rootL)).single = true then 2 else 0
def rchk (s : Sc) : Int := if 128 < s.types.length ∨ 128 < s.classes.length then 9
  else if firstE (rTy s) s.types.length 0 ≠ 0 then firstE (rTy s) s.types.length 0
  else if firstE (rCl s) s.classes.length 0 ≠ 0 then firstE (rCl s) s.classes.length 0
  else rRoot s
theorem firstE_zero (f : Nat → Int) : ∀ (k i : Nat), firstE f k i = 0 → ∀ j, i ≤ j → j < i + k → f j = 0
  | 0, i, _, j, h1, h2 => by omega
  | k + 1, i, h, j, h1, h2 => by
    have h3 : (if f i ≠ 0 then f i else firstE f k (i + 1)) = 0 := h
    by_cases hf : f i = 0
    · rw [if_neg (fun h => h hf)] at h3
      by_cases e : j = i
      · rw [e]; exact hf
      · exact firstE_zero f k (i + 1) h3 j (by omega) (by omega)
    · rw [if_pos hf] at h3; exact absurd h3 hf
end Mt
theorem tys_take {w : World} {a : Option Addr} {n c i : Nat} {l : List Mt.Ty} (h : IsTys w (.slice a n c) l) (hi : i ≤ l.length) : IsTys w (.slice a i c) (l.take i) := by
  obtain ⟨a', c', e, hc, h⟩ := h
  cases e
  have hl : (l.take i).length = i := by rw [List.length_take]; omega
  refine ⟨a, c, by rw [hl], by rw [hl]; omega, Lib.hid fun j hj => ?_⟩
  rw [hl] at hj
  have := h.out j (by omega)
  rw [List.getElem_take]
  exact this
theorem cls_take {w : World} {a : Option Addr} {n c i : Nat} {l : List Mt.Cl} (h : IsCls w (.slice a n c) l) (hi : i ≤ l.length) : IsCls w (.slice a i c) (l.take i) := by
  obtain ⟨a', c', e, hc, h⟩ := h
  cases e
  have hl : (l.take i).length = i := by rw [List.length_take]; omega
  refine ⟨a, c, by rw [hl], by rw [hl]; omega, Lib.hid fun j hj => ?_⟩
  rw [hl] at hj
  have := h.out j (by omega)
  rw [List.getElem_take]
  exact this
theorem rTyBef_any {w : World} {a : Option Addr} {n c : Nat} {cv : Value} {s : Mt.Sc} (h : IsSc w (.slice a n c) cv s) (i : Nat) (hi : i ≤ s.types.length) (nm : List UInt8) (hn : nm.length ≤ 140737488351232) :
    Calls Tryz.prog 28 #[.slice a i c, .string (Mt.str nm)] w fun e w' => e = .returned (.int .i64 (Mt.tyBef s i nm)) ∧ Below w.heap.size w w' :=
  rAt_any (tys_take h.types hi) nm hn (fun t ht => h.tnm t (List.mem_of_mem_take ht)) (by rw [List.length_take]; have := h.tlen; omega)
theorem rTyAt_any {w : World} {tv cv : Value} {s : Mt.Sc} (h : IsSc w tv cv s) (nm : List UInt8) (hn : nm.length ≤ 140737488351232) :
    Calls Tryz.prog 28 #[tv, .string (Mt.str nm)] w fun e w' => e = .returned (.int .i64 (Mt.tyAt s nm)) ∧ Below w.heap.size w w' :=
  rAt_any h.types nm hn h.tnm h.tlen
section
variable {sup : List UInt8} {kc up ku : Int} {LK : Bool}
def Mt.rTail (sup : List UInt8) (kc up ku : Int) (LK : Bool) : Int := if sup ≠ [] ∧ up < 0 then (22 : Int) else if (decide (sup = []) && decide (kc ≠ 0) || decide (sup ≠ []) && decide (ku ≠ 0) && decide (ku ≠ kc)) = true then 2 else if LK = true then 22 else 0
theorem Mt.rt1 (h : sup = []) (h2 : kc = 0) : Mt.rTail sup kc up ku LK = if LK = true then 22 else 0 := by simp [Mt.rTail, h, h2]
theorem Mt.rt2 (h : sup = []) (h2 : kc ≠ 0) : Mt.rTail sup kc up ku LK = 2 := by simp [Mt.rTail, h, h2]
theorem Mt.rt3 (h : sup ≠ []) (h2 : up < 0) : Mt.rTail sup kc up ku LK = 22 := by simp [Mt.rTail, h, h2]
theorem Mt.rt4 (h : sup ≠ []) (h2 : ¬ up < 0) (h3 : ku = 0) : Mt.rTail sup kc up ku LK = if LK = true then 22 else 0 := by simp [Mt.rTail, h, h2, h3]
theorem Mt.rt5 (h : sup ≠ []) (h2 : ¬ up < 0) (h3 : ku = kc) : Mt.rTail sup kc up ku LK = if LK = true then 22 else 0 := by simp [Mt.rTail, h, h2, h3]
theorem Mt.rt6 (h : sup ≠ []) (h2 : ¬ up < 0) (h3 : ku ≠ 0) (h4 : ku ≠ kc) : Mt.rTail sup kc up ku LK = 2 := by simp [Mt.rTail, h, h2, h3, h4]
end
/-- Names behind names of the call's own. -/
theorem own_cat13 {base : Nat} {w : World} {v : Value} {l1 : List (List UInt8)} (h : IsOwn 9 1 base w v l1.length (nms l1)) (hbase : base ≤ w.heap.size) {x : Value} {l2 : List (List UInt8)} (hx : IsNms w x l2) (hn : (l1.length + l2.length) * 16 ≤ 140737488355328) :
    ∃ a' c' w', (∀ ty, (Builtin.append_ #[47, 47] ty #[v, x]).run Tryz.prog w = .ok (.slice a' (l1.length + l2.length) c') w') ∧ IsOwn 9 1 base w' (.slice a' (l1.length + l2.length) c') (l1 ++ l2).length (nms (l1 ++ l2)) ∧ Below base w w' := by
  obtain ⟨i0, hi, hz0, hz1, hz2⟩ := info_parts Tryz.infoStr13
  obtain ⟨g, hg, h⟩ := h
  obtain ⟨a, cap, rfl, hcap, hcell⟩ := hx
  have src : Src Tryz.prog i0.size 47 (.slice a l2.length cap) l2.length (nms l2) w := by
    rcases l2 with _ | ⟨y, r⟩
    · cases a with
      | none => exact Src.ofNil w Tryz.underlying47 cap
      | some p => exact Src.ofSlice w Tryz.underlying47 p 0 cap [] (by simp) (fun j u hu => by simp at hu) (by simp)
    · obtain ⟨b, off, e0, hbl, -⟩ := hcell.out 0 (by simp)
      subst e0
      refine Src.ofSlice w Tryz.underlying47 ⟨b, off, none⟩ _ cap _ (by rw [hz1]; simp [nms]) (fun j u hu => ?_) (nms_one _)
      have hj : j < (y :: r).length := by
        rcases Nat.lt_or_ge j (y :: r).length with h | h
        · exact h
        · rw [List.getElem?_eq_none (by simpa [nms] using h)] at hu; cases hu
      obtain ⟨b', off', e1, hbl', hc⟩ := hcell.out j hj
      cases e1
      rw [add_off, hc]
      simp only [nms, List.getElem?_map, List.getElem?_eq_getElem hj, Option.map_some] at hu
      exact hu
  obtain ⟨v', w', g', hrun, hrw, hg', ho⟩ := rw_append (T := 47) (tx := 47) Tryz.underlying47 hi hz0 hz1 hz2 rfl h (nms_one _) _ l2.length (nms l2) src (by omega) (by omega)
  obtain ⟨a', c', rfl⟩ := hrw.form
  have e : nms (l1 ++ l2) = nms l1 ++ nms l2 := by simp [nms]
  refine ⟨a', c', w', hrun, ⟨g', ?_, by rw [List.length_append, e]; exact hrw⟩, ho.toBelow (by simpa using hg) hbase⟩
  rcases hg' with rfl | rfl
  · exact hg
  · exact hbase
end Go.Proofs.YtngdbhncafnliaaGreat

/-
  What is wrong with a schema: the document's way and the program's come to the same.
-/
namespace Go.Proofs.YtngdbhncafnliaaGreat
open Go.RowKit

namespace Mt
theorem atL_take {α : Type} (p : α → Bool) (l : List α) (i : Nat) (hi : i ≤ l.length) : atL p (l.take i) = if atL p l ≥ i then -1 else atL p l := by
  rcases atL_spec p l with ⟨h, h2⟩ | ⟨m, h, hm, h1, h2⟩
  · rw [h, if_neg (by omega)]
    rcases atL_spec p (l.take i) with ⟨g, _⟩ | ⟨k, g, hk, g1, _⟩
    · exact g
    · exfalso
      rw [List.getElem_take] at g1
      rw [List.length_take] at hk
      rw [h2 k (by omega)] at g1; cases g1
  · rw [h]
    rcases atL_spec p (l.take i) with ⟨g, g2⟩ | ⟨k, g, hk, g1, g2⟩
    · rw [g]
      by_cases hmi : m < i
      · exfalso
        have := g2 m (by rw [List.length_take]; omega)
        rw [List.getElem_take, h1] at this; cases this
      · rw [if_pos (by omega)]
    · rw [g]
      have hk' := hk
      rw [List.length_take] at hk'
      rw [List.getElem_take] at g1
      have e : k = m := by
        rcases Nat.lt_trichotomy k m with hlt | he | hgt
        · rw [h2 k hlt] at g1; cases g1
        · exact he
        · have := g2 m hgt
          rw [List.getElem_take, h1] at this; cases this
      rw [e, if_neg (by omega)]
theorem tyBef_lt (s : Sc) (i : Nat) (hi : i < s.types.length) : (0 ≤ tyBef s i (tyI s i).name) ↔ tyAt s (tyI s i).name < i := by
  have hg := tyI_get hi
  unfold tyBef
  rw [atL_take _ _ _ (by omega)]
  have hat : tyAt s (tyI s i).name = atL (fun t => sameN t.name (tyI s i).name) s.types := rfl
  rw [hat]
  have hne : 0 ≤ atL (fun t => sameN t.name (tyI s i).name) s.types := by
    rcases atL_spec (fun t => sameN t.name (tyI s i).name) s.types with ⟨_, h2⟩ | ⟨m, h, _⟩
    · exfalso
      have := h2 i hi
      rw [hg] at this
      simp [sameN] at this
    · omega
  split <;> omega
theorem clBef_lt (s : Sc) (i : Nat) (hi : i < s.classes.length) : (0 ≤ clBef s i (clI s i).name) ↔ clAt s (clI s i).name < i := by
  have hg := clI_get hi
  unfold clBef
  rw [atL_take _ _ _ (by omega)]
  have hat : clAt s (clI s i).name = atL (fun t => sameN t.name (clI s i).name) s.classes := rfl
  rw [hat]
  have hne : 0 ≤ atL (fun t => sameN t.name (clI s i).name) s.classes := by
    rcases atL_spec (fun t => sameN t.name (clI s i).name) s.classes with ⟨_, h2⟩ | ⟨m, h, _⟩
    · exfalso
      have := h2 i hi
      rw [hg] at this
      simp [sameN] at this
    · omega
  split <;> omega
theorem rUp_eq (s : Sc) (i : Nat) (hi : i ≤ s.classes.length) : rUp s i = supAt s i := by
  unfold rUp clBef supAt
  rw [atL_take _ _ _ hi]
  rfl
theorem rTy_eq (s : Sc) (i : Nat) (hi : i < s.types.length) : rTy s i = chkTy s i := by
  unfold rTy chkTy
  simp only [tyBef_lt s i hi]
theorem typL_nil : typL [] = false := rfl
theorem rCl_eq (s : Sc) (i : Nat) (hi : i < s.classes.length) (hp : ∀ j, j < i → typL (clI s j).name = true) : rCl s i = chkCl s i := by
  have hu := rUp_eq s i (by omega)
  have hk : ((clI s i).kind < 0 ∨ 2 < (clI s i).kind) ↔ ((clI s i).kind ≠ 0 ∧ (clI s i).kind ≠ 1 ∧ (clI s i).kind ≠ 2) := by omega
  have hsup : (clI s i).sup = [] → supAt s i < 0 := by
    intro he
    rw [← hu]
    unfold rUp clBef
    rcases atL_spec (fun c : Cl => sameN c.name (clI s i).sup) (s.classes.take i) with ⟨h, _⟩ | ⟨m, h, hm, h1, _⟩
    · omega
    · exfalso
      rw [List.length_take] at hm
      have hj := hp m (by omega)
      rw [List.getElem_take, he] at h1
      rw [clI_get (show m < s.classes.length by omega)] at hj
      simp only [sameN, foldL, List.map_nil, decide_eq_true_eq, List.map_eq_nil_iff] at h1
      rw [h1, typL_nil] at hj; cases hj
  unfold rCl chkCl
  simp only [clBef_lt s i hi, hk, hu, List.any_append]
  unfold rKind chkSup wrong
  rw [hu]
  by_cases h0 : (clI s i).sup = []
  · have h1 := hsup h0
    simp only [h0, ne_eq, not_true_eq_false, false_and, if_false, decide_false, Bool.false_and, Bool.or_false, decide_true, Bool.true_and, if_pos h1]
    repeat' split <;> simp_all
  · by_cases h1 : supAt s i < 0
    · simp [h0, h1]
    · simp only [h0, h1, ne_eq, not_false_eq_true, and_false, if_false, decide_false, decide_true, Bool.false_and, Bool.false_or, Bool.true_and]
      split
      · rfl
      · split
        · rfl
        · split
          · rfl
          · split <;> simp_all
theorem firstE_congr (f g : Nat → Int) : ∀ (k i : Nat), (∀ j, i ≤ j → j < i + k → (∀ h, i ≤ h → h < j → g h = 0) → f j = g j) → firstE f k i = firstE g k i
  | 0, _, _ => rfl
  | k + 1, i, h => by
    have h0 := h i (Nat.le_refl _) (by omega) (fun h hh hl => by omega)
    show (if f i ≠ 0 then f i else firstE f k (i + 1)) = (if g i ≠ 0 then g i else firstE g k (i + 1))
    rw [h0]
    by_cases hg : g i = 0
    · rw [if_neg (fun h => h hg), if_neg (fun h => h hg)]
      refine firstE_congr f g k (i + 1) (fun j h1 h2 h3 => h j (by omega) (by omega) (fun q hq1 hq2 => ?_))
      by_cases e : q = i
      · rw [e]; exact hg
      · exact h3 q (by omega) hq2
    · rw [if_pos hg, if_pos hg]
theorem rRoot_eq (s : Sc) : rRoot s = chkRoot s := by
  have e : tyAt s rootL = tyAt s rootN := by
    unfold tyAt sameN
    have : foldL rootL = foldL rootN := by decide
    rw [this]
  unfold rRoot chkRoot wrong
  rw [e]
  split
  · rfl
  · simp only [Bool.or_eq_true, decide_eq_true_eq]
theorem chkCl_typ {s : Sc} {i : Nat} (h : chkCl s i = 0) : typL (clI s i).name = true := by
  unfold chkCl at h
  by_cases hh : typL (clI s i).name = true
  · exact hh
  · rw [if_pos (by simpa using hh)] at h; cases h
/-- What the document asks is what the program does. -/
theorem rchk_eq (s : Sc) : rchk s = chk s := by
  have e1 : firstE (rTy s) s.types.length 0 = firstE (chkTy s) s.types.length 0 := firstE_congr _ _ _ _ (fun j _ h2 _ => rTy_eq s j (by omega))
  have e2 : firstE (rCl s) s.classes.length 0 = firstE (chkCl s) s.classes.length 0 := firstE_congr _ _ _ _ (fun j _ h2 h3 => rCl_eq s j (by omega) (fun q hq => chkCl_typ (h3 q (by omega) hq)))
  unfold rchk chk
  rw [e1, e2, rRoot_eq]
end Mt
end Go.Proofs.YtngdbhncafnliaaGreat

/-
  What is wrong with a schema, as the document has it: the walk .
-/
namespace Go.Proofs.YtngdbhncafnliaaGreat
open Go.RowKit

end Go.Proofs.YtngdbhncafnliaaGreat
