/-
  Some texts of one proof, one behind the other.
-/
import Derived.Deep.CutRange
import Derived.Test.YtngdbhncafnliaaGreatRows
import Derived.SizedLaws
import Derived.OpenShut
import Derived.SliceStrings
import Derived.ProofKit
import Derived.Test.YtngdbhncafnliaaGreatPk7
import Derived.Test.YtngdbhncafnliaaGreatPk40
import Derived.Test.YtngdbhncafnliaaGreatPk41
import Derived.Test.YtngdbhncafnliaaGreatPk42
set_option linter.unusedVariables false
set_option linter.unusedSimpArgs false

/-
  Two lists of names held side by side; whether a schema is small.
-/
namespace Go.Proofs.YtngdbhncafnliaaGreat
open Go.RowKit

theorem Mt.str_beq (p q : List UInt8) : ((Mt.str p).toList == (Mt.str q).toList) = decide (p = q) := by
  rw [ByteArray.toList_eq, ByteArray.toList_eq, Mt.str_data, Mt.str_data, Bool.eq_iff_iff, beq_iff_eq, decide_eq_true_eq]
/-- A schema that may be, and is short enough. -/
def Mt.smallS (s : Mt.Sc) : Bool := decide (s.types.length ≤ 128) && decide (s.classes.length ≤ 40) && decide (Mt.chk s = 0)
end Go.Proofs.YtngdbhncafnliaaGreat

/-
  What follows where nothing is wrong with a schema: each class is found by its name, its Sup ahead of it.
-/
namespace Go.Proofs.YtngdbhncafnliaaGreat
open Go.RowKit

namespace Mt
theorem chk_cl {s : Sc} (h : chk s = 0) : ∀ i, i < s.classes.length → chkCl s i = 0 := by
  unfold chk at h
  intro i hi
  by_cases h1 : 128 < s.types.length ∨ 128 < s.classes.length
  · rw [if_pos h1] at h; cases h
  rw [if_neg h1] at h
  by_cases h2 : firstE (chkTy s) s.types.length 0 = 0
  · rw [if_neg (fun hh => hh h2)] at h
    by_cases h3 : firstE (chkCl s) s.classes.length 0 = 0
    · exact firstE_zero _ _ _ h3 i (by omega) (by omega)
    · rw [if_pos h3] at h; exact absurd h h3
  · rw [if_pos h2] at h; exact absurd h h2
theorem chk_at {s : Sc} (h : chk s = 0) (i : Nat) (hi : i < s.classes.length) : clAt s (clI s i).name = i := by
  have hc := chk_cl h i hi
  have ht := chkCl_typ hc
  unfold chkCl at hc
  rw [if_neg (by rw [ht]; decide)] at hc
  by_cases h2 : clAt s (clI s i).name < i
  · rw [if_pos h2] at hc; cases hc
  · have hat : clAt s (clI s i).name = atL (fun t => sameN t.name (clI s i).name) s.classes := rfl
    rw [hat] at h2 ⊢
    rcases atL_spec (fun t => sameN t.name (clI s i).name) s.classes with ⟨h3, h4⟩ | ⟨m, h3, hm, h4, h5⟩
    · exfalso
      have := h4 i hi
      rw [clI_get hi] at this
      simp [sameN] at this
    · rw [h3] at h2 ⊢
      by_cases e : m = i
      · rw [e]
      · exfalso
        have := h5 i (by omega)
        rw [clI_get hi] at this
        simp [sameN] at this
theorem chk_sup {s : Sc} (h : chk s = 0) (i : Nat) (hi : i < s.classes.length) : ((clI s i).sup = [] → supAt s i < 0) ∧ ((clI s i).sup ≠ [] → supAt s i = clAt s (clI s i).sup ∧ 0 ≤ supAt s i) := by
  have hc := chk_cl h i hi
  have ht := chkCl_typ hc
  constructor
  · intro he
    have hu := rUp_eq s i (by omega)
    rw [← hu]
    unfold rUp clBef
    rcases atL_spec (fun c : Cl => sameN c.name (clI s i).sup) (s.classes.take i) with ⟨h, _⟩ | ⟨m, h, hm, h1, _⟩
    · omega
    · exfalso
      rw [List.length_take] at hm
      have hj := chkCl_typ (chk_cl ‹chk s = 0› m (by omega))
      rw [List.getElem_take, he] at h1
      rw [clI_get (show m < s.classes.length by omega)] at hj
      simp only [sameN, foldL, List.map_nil, decide_eq_true_eq, List.map_eq_nil_iff] at h1
      rw [h1, typL_nil] at hj; cases hj
  · intro hne
    unfold chkCl at hc
    rw [if_neg (by rw [ht]; decide)] at hc
    have h2 := chk_at h i hi
    rw [if_neg (by omega)] at hc
    by_cases h3 : (clI s i).kind ≠ 0 ∧ (clI s i).kind ≠ 1 ∧ (clI s i).kind ≠ 2
    · rw [if_pos h3] at hc; cases hc
    rw [if_neg h3] at hc
    by_cases h4 : chkSup s i = 0
    · unfold chkSup at h4
      by_cases h5 : supAt s i < 0
      · rw [if_pos ⟨hne, h5⟩] at h4; cases h4
      · refine ⟨?_, by omega⟩
        unfold supAt at h5 ⊢
        by_cases h6 : clAt s (clI s i).sup ≥ i
        · rw [if_pos h6] at h5; omega
        · rw [if_neg h6]
    · rw [if_pos h4] at hc; exact absurd hc h4
theorem chains {s : Sc} (h : chk s = 0) (i : Nat) (hi : i < s.classes.length) :
    ∃ r, chainN s (clI s i).name = (clI s i).name :: r ∧ ((clI s i).sup = [] → r = []) ∧ ((clI s i).sup ≠ [] → r = chainN s (clI s i).sup ∧ r.length ≠ 0) := by
  obtain ⟨m, hm⟩ : ∃ m, s.classes.length = m + 1 := ⟨s.classes.length - 1, by omega⟩
  refine ⟨(chainF s m (supAt s i)).map fun (j : Nat) => (clI s (j : Int)).name, ?_, fun he => ?_, fun hne => ?_⟩
  · unfold chainN chain
    rw [chk_at h i hi, hm, chainF_pos s m (by omega)]
    simp
  · rw [chainF_neg s m ((chk_sup h i hi).1 he)]; rfl
  · obtain ⟨h1, h2⟩ := (chk_sup h i hi).2 hne
    have h3 := (supAt_range (s := s) i).2
    constructor
    · unfold chainN chain
      rw [← h1, chainF_more s m s.classes.length (supAt s i) (by omega) (by omega)]
    · obtain ⟨q, rfl⟩ : ∃ q, m = q + 1 := ⟨m - 1, by omega⟩
      rw [chainF_pos s q h2]; simp
end Mt
theorem IsNms.tail {w : World} {b off k c : Nat} {x : List UInt8} {r : List (List UInt8)} (h : IsNms w (.slice (some ⟨b, off, none⟩) (k + 1) (c + 1)) (x :: r)) : (c ≠ 0 → IsNms w (.slice (some ⟨b, off + 1, none⟩) k c) r) ∧ (c = 0 → IsNms w (.slice (some ⟨b, off, none⟩) 0 0) r ∧ k = 0) := by
  obtain ⟨a, cap, e, hc, H⟩ := h
  simp only [List.length_cons] at e hc
  have e1 : some ⟨b, off, none⟩ = a := by injection e
  have e2 : k + 1 = r.length + 1 := by injection e
  have e3 : c + 1 = cap := by injection e
  subst e1 e3
  constructor
  · intro _
    refine ⟨_, c, by rw [show k = r.length by omega], by omega, Lib.hid fun j hj => ?_⟩
    obtain ⟨b', off', h0, h1, h2⟩ := H.out (j + 1) (by simp only [List.length_cons]; omega)
    cases h0
    refine ⟨b, off + 1, rfl, h1, ?_⟩
    rw [show off + 1 + j = off + (j + 1) by omega]
    simpa using h2
  · intro h0
    have : r = [] := List.eq_nil_of_length_eq_zero (by omega)
    subst this
    exact ⟨⟨_, 0, rfl, Nat.le_refl _, Lib.hid fun j hj => absurd hj (by simp)⟩, by simpa using e2⟩
end Go.Proofs.YtngdbhncafnliaaGreat

/-
  Two schemas held side by side.
-/
namespace Go.Proofs.YtngdbhncafnliaaGreat
open Go.RowKit

end Go.Proofs.YtngdbhncafnliaaGreat

/-
  Whether a name is in a list; what must be there of two lists of classes.
-/
namespace Go.Proofs.YtngdbhncafnliaaGreat
open Go.RowKit

namespace Mt
theorem mem_those {M Y : List (List UInt8)} {k : Int} {x : List UInt8} : x ∈ those M Y k ↔ (x ∈ M ∨ x ∈ Y) ∧ val M Y x = k := by
  unfold those
  rw [List.mem_mergeSort, List.mem_filter, mem_dd, List.mem_append, decide_eq_true_eq]
theorem mem_those2 {M Y : List (List UInt8)} {x : List UInt8} : x ∈ those M Y 2 ↔ x ∈ M := by
  rw [mem_those]
  unfold val
  by_cases h : x ∈ M
  · simp [h]
  · by_cases h2 : x ∈ Y <;> simp [h, h2]
theorem mem_those1 {M Y : List (List UInt8)} {x : List UInt8} : x ∈ those M Y 1 ↔ x ∉ M ∧ x ∈ Y := by
  rw [mem_those]
  unfold val
  by_cases h : x ∈ M
  · simp [h]
  · by_cases h2 : x ∈ Y <;> simp [h, h2]
theorem union_mem (s : Sc) (one two : List (List UInt8)) (x : List UInt8) : x ∈ (wantsS s (one ++ two)).1 ↔ x ∈ (wantsS s one).1 ∨ x ∈ (wantsS s two).1 := by
  unfold wantsS
  simp only [mem_those2, idxs_app, mustI_app, List.mem_append]
theorem union_may (s : Sc) (cs : List (List UInt8)) (x : List UInt8) (h : x ∈ (wantsS s cs).1) : x ∉ (wantsS s cs).2 := by
  unfold wantsS at *
  simp only [mem_those2, mem_those1] at *
  exact fun hh => hh.1 h
theorem fold_idem (l : List UInt8) : foldL (foldL l) = foldL l := by
  unfold foldL
  rw [List.map_map]; congr 1; funext c; exact sm_sm c
theorem union_fold (s : Sc) (cs : List (List UInt8)) (x : List UInt8) (h : x ∈ (wantsS s cs).1) : foldL x = x := by
  unfold wantsS mustI at h
  simp only [mem_those2, List.mem_flatMap, List.mem_map] at h
  obtain ⟨_, _, y, _, rfl⟩ := h
  exact fold_idem y
theorem chkCl_lists {s : Sc} {i : Nat} (h : chkCl s i = 0) : ∀ x, x ∈ (clI s i).must ∨ x ∈ (clI s i).may → lacks s x = false := by
  unfold chkCl at h
  by_cases h1 : typL (clI s i).name = false
  · rw [if_pos h1] at h; cases h
  rw [if_neg h1] at h
  by_cases h2 : clAt s (clI s i).name < i
  · rw [if_pos h2] at h; cases h
  rw [if_neg h2] at h
  by_cases h3 : (clI s i).kind ≠ 0 ∧ (clI s i).kind ≠ 1 ∧ (clI s i).kind ≠ 2
  · rw [if_pos h3] at h; cases h
  rw [if_neg h3] at h
  by_cases h4 : chkSup s i = 0
  · rw [if_neg (fun hh => hh h4)] at h
    by_cases h5 : ((clI s i).must.any (lacks s) || (clI s i).may.any (lacks s)) = true
    · rw [if_pos h5] at h; cases h
    · simp only [Bool.or_eq_true, List.any_eq_true, not_or, not_exists, not_and, Bool.not_eq_true] at h5
      rintro x (hx | hx)
      · exact h5.1 x hx
      · exact h5.2 x hx
  · rw [if_pos h4] at h; exact absurd h h4
/-- The names that there are, where nothing is wrong. -/
theorem chk_names {s : Sc} (h : chk s = 0) : ∀ c ∈ s.classes, ∀ x, x ∈ c.must ∨ x ∈ c.may → foldL x ∈ s.types.map fun t => foldL t.name := by
  intro c hc x hx
  obtain ⟨i, hi, rfl⟩ := List.mem_iff_getElem.1 hc
  have hl := chkCl_lists (chk_cl h i hi) x (by rw [clI_get hi]; exact hx)
  unfold lacks at hl
  rw [decide_eq_false_iff_not] at hl
  unfold tyAt at hl
  rcases atL_spec (fun t : Ty => sameN t.name x) s.types with ⟨h1, _⟩ | ⟨m, h1, hm, h2, _⟩
  · rw [h1] at hl; omega
  · refine List.mem_map.2 ⟨_, List.getElem_mem hm, ?_⟩
    simpa [sameN] using h2
theorem nodup_those (M Y : List (List UInt8)) (k : Int) : (those M Y k).Nodup := by
  unfold those
  exact (List.mergeSort_perm _ _).nodup_iff.2 ((nodup_dd _).filter _)
theorem lists_in {s : Sc} {T : List (List UInt8)} (hT : ∀ c ∈ s.classes, ∀ x, x ∈ c.must ∨ x ∈ c.may → foldL x ∈ T) (cs : List (List UInt8)) : ∀ x, x ∈ mustI s (idxs s cs) ∨ x ∈ mayI s (idxs s cs) → x ∈ T := by
  have hlt : ∀ i ∈ idxs s cs, i < s.classes.length := fun i hi => by
    unfold idxs at hi
    obtain ⟨c, _, hc⟩ := List.mem_flatMap.1 hi
    exact chain_lt s c i hc
  rintro x (hx | hx)
  · unfold mustI at hx
    obtain ⟨i, hi, hx⟩ := List.mem_flatMap.1 hx
    obtain ⟨y, hy, rfl⟩ := List.mem_map.1 hx
    rw [clI_get (hlt i hi)] at hy
    exact hT _ (List.getElem_mem (hlt i hi)) y (.inl hy)
  · unfold mayI at hx
    obtain ⟨i, hi, hx⟩ := List.mem_flatMap.1 hx
    obtain ⟨y, hy, rfl⟩ := List.mem_map.1 hx
    rw [clI_get (hlt i hi)] at hy
    exact hT _ (List.getElem_mem (hlt i hi)) y (.inr hy)
theorem wants_in {s : Sc} {T : List (List UInt8)} (hT : ∀ c ∈ s.classes, ∀ x, x ∈ c.must ∨ x ∈ c.may → foldL x ∈ T) (cs : List (List UInt8)) : (∀ x, x ∈ (wantsS s cs).1 ∨ x ∈ (wantsS s cs).2 → x ∈ T) ∧ (wantsS s cs).1.length ≤ T.length ∧ (wantsS s cs).2.length ≤ T.length := by
  have h1 : ∀ x, x ∈ (wantsS s cs).1 ∨ x ∈ (wantsS s cs).2 → x ∈ T := by
    unfold wantsS
    rintro x (hx | hx)
    · exact lists_in hT cs x (mem_those.1 hx).1
    · exact lists_in hT cs x (mem_those.1 hx).1
  refine ⟨h1, ?_, ?_⟩
  · exact length_le_of_sub _ _ (nodup_those _ _ _) (fun x hx => h1 x (.inl hx))
  · exact length_le_of_sub _ _ (nodup_those _ _ _) (fun x hx => h1 x (.inr hx))
theorem chk_len {s : Sc} (h : chk s = 0) : s.types.length ≤ 128 ∧ s.classes.length ≤ 128 := by
  unfold chk at h
  by_cases h1 : 128 < s.types.length ∨ 128 < s.classes.length
  · rw [if_pos h1] at h; cases h
  · omega
end Mt
end Go.Proofs.YtngdbhncafnliaaGreat

/-
  A schema that came in, as an argument.
-/
namespace Go.Proofs.YtngdbhncafnliaaGreat
open Go.RowKit

theorem bulk13_pos {H : Type} (d : DataW H) : 1 ≤ Rows.uptoBulk d := by
  cases d with
  | lit l => cases l <;> simp [Rows.uptoBulk]
  | _ => simp [Rows.uptoBulk]
theorem bulk13_len {H : Type} : ∀ (l : List (DataW H)), l.length ≤ Rows.uptoBulkAll l
  | [] => Nat.zero_le _
  | d :: r => by
    have h1 := bulk13_pos d
    have h2 := bulk13_len r
    simp only [List.length_cons, Rows.uptoBulkAll]; omega
theorem bulk13_mem {H : Type} : ∀ {l : List (DataW H)} {d : DataW H}, d ∈ l → Rows.uptoBulk d ≤ Rows.uptoBulkAll l
  | x :: r, d, h => by
    simp only [Rows.uptoBulkAll]
    rcases List.mem_cons.1 h with rfl | h
    · omega
    · have := bulk13_mem h; omega
theorem weightsAll_mem13 {H : Type} {P : Program} {e : TypeId} : ∀ {l : List (DataW H)} {d : DataW H} {n : Nat}, d ∈ l → n ∈ d.weights P e → n ∈ DataW.weightsAll P e l
  | _ :: l, d, n, h, hn => by
    simp only [DataW.weightsAll, List.mem_append]
    rcases List.mem_cons.1 h with rfl | h
    · exact .inl hn
    · exact .inr (weightsAll_mem13 h hn)
theorem cellsTy13 : Tryz.prog.cellsOf 71 = 4 := by kernel_rfl
theorem cellsOc13 : Tryz.prog.cellsOf 73 = 5 := by kernel_rfl
theorem cellsStr13 : Tryz.prog.cellsOf 9 = 1 := by kernel_rfl
theorem cellsInt13 : Tryz.prog.cellsOf 3 = 1 := by kernel_rfl
theorem cellsBool13 : Tryz.prog.cellsOf 4 = 1 := by kernel_rfl
theorem cellsStrs13 : Tryz.prog.cellsOf 47 = 1 := by kernel_rfl
theorem bytesTy13 : Tryz.prog.bytesOf 71 = 32 := by kernel_rfl
theorem bytesOc13 : Tryz.prog.bytesOf 73 = 88 := by kernel_rfl
theorem bytesStr13 : Tryz.prog.bytesOf 9 = 16 := by kernel_rfl
theorem addr13_none {w : World} {x : Addr} {v : Value} (h : w.cell? x = some v) : ∃ b off, x = ⟨b, off, none⟩ := by
  obtain ⟨b, off, spot⟩ := x
  have hs : spot = none := by simpa using World.cell?_spot h
  exact ⟨b, off, by rw [hs]⟩
theorem add13_zero (x : Addr) : x.add 0 = x := by obtain ⟨b, off, sp⟩ := x; unfold Addr.add; split <;> simp_all
set_option maxRecDepth 100000 in
/-- Names that came in, with what their texts weigh. -/
theorem open_nms {H : Type} {enc : TypeId × Value → H} {W : World} {fu : Nat} {cs : List Value} {x : DataW H × List MemPlace} (hf : DataW.trod enc Tryz.prog W 0 (fun _ => true) true fu 47 cs = some x) (h1 : cs.length = 1)
    (hw : ∀ k ∈ x.1.weights Tryz.prog 47, k ≤ reachBytes) : ∃ v l, cs = [v] ∧ IsNms W v l ∧ l.length ≤ 8796093022208 ∧ (∀ a ∈ l, a.length ≤ 140737488351232) ∧ l.length ≤ Rows.uptoBulk x.1 := by
  rcases DataW.trod_slice Tryz.underlying47 hf with ⟨hcs, _⟩ | ⟨y, l, cp, elems, rest, n, hmn, hcs, hy2, _, hl, hm, hlen, hel, _, _⟩
  · exact ⟨_, [], hcs, ⟨none, 0, rfl, by simp, Lib.hid fun j hj => absurd hj (by simp)⟩, by simp, by simp, Nat.zero_le _⟩
  · refine ⟨.slice (some y) l cp, ?_⟩
    rw [cellsStr13] at hel
    have hl16 : l * 16 ≤ 140737488351232 := by
      have := hw ((elems.length + rest.length) * 16) (by rw [hy2]; simp [DataW.weights, Tryz.underlying47, bytesStr13])
      simp only [reachBytes] at this
      omega
    have hex : ∀ i : Nat, ∃ a : List UInt8, i < l → W.cell? (y.add (i * 1)) = some (.string (Mt.str a)) ∧ a.length ≤ 140737488351232 := by
      intro i
      by_cases hin : i < l
      · have h := hel i hin
        rw [List.getElem?_eq_getElem (by omega)] at h
        obtain ⟨cs', hc, ht⟩ := Option.bind_eq_some_iff.1 h
        obtain ⟨_, hcl, hat⟩ := World.cells?_some hc
        have hmem : elems[i].1 ∈ elems.map (·.1) := List.mem_map.2 ⟨elems[i], List.getElem_mem _, rfl⟩
        obtain ⟨S, e0, hy0, _⟩ := DataW.trod_string Tryz.underlying9 (x := elems[i]) ht
        have hwe : S.data.toList.length ≤ reachBytes := hw _ (by
          rw [hy2]; simp only [DataW.weights, Tryz.underlying47, List.mem_cons, List.mem_append]
          exact .inr (.inl (weightsAll_mem13 hmem (by rw [hy0]; simp [DataW.weights]))))
        refine ⟨S.data.toList, fun _ => ⟨?_, hwe⟩⟩
        subst e0
        have := hat 0 (by decide); rw [add13_zero] at this; exact this
      · exact ⟨[], fun h => absurd h hin⟩
    obtain ⟨f, hfm⟩ := Classical.axiomOfChoice hex
    have hlD : ((List.range l).map f).length = l := by simp
    refine ⟨(List.range l).map f, by simpa [Value.cells] using hcs, ⟨some y, cp, by rw [hlD], by rw [hlD]; omega, Lib.hid fun j hj => ?_⟩, by rw [hlD]; omega, fun a ha => ?_, ?_⟩
    · have hin : j < l := by rw [hlD] at hj; exact hj
      have hv := (hfm 0 (by omega)).1
      rw [Nat.zero_mul, add13_zero] at hv
      obtain ⟨b, off, rfl⟩ := addr13_none hv
      have h2 := (hfm j hin).1
      rw [add_off, Nat.mul_one] at h2
      exact ⟨b, off, rfl, World.block_lt_of_cell? W _ hv, by simpa using h2⟩
    · obtain ⟨i, hi, rfl⟩ := List.mem_map.1 ha
      exact (hfm i (List.mem_range.1 hi)).2
    · have h1 : Rows.uptoBulk x.1 = Rows.uptoBulkAll (elems.map (·.1)) + Rows.uptoBulkAll (rest.map (·.1)) + 1 := by rw [hy2]; rfl
      have h2 := bulk13_len (elems.map (·.1))
      rw [List.length_map] at h2
      rw [hlD]
      omega
set_option maxRecDepth 100000 in
/-- Types that came in. -/
theorem open_tys {H : Type} {enc : TypeId × Value → H} {W : World} {fu : Nat} {cs : List Value} {x : DataW H × List MemPlace} (hf : DataW.trod enc Tryz.prog W 0 (fun _ => true) true fu 32 cs = some x)
    (hw : ∀ k ∈ x.1.weights Tryz.prog 32, k ≤ reachBytes) : ∃ v l, cs = [v] ∧ IsTys W v l ∧ l.length ≤ 4398046511104 ∧ ∀ a ∈ l, a.name.length ≤ 140737488351232 := by
  rcases DataW.trod_slice Tryz.underlying32 hf with ⟨hcs, _⟩ | ⟨y, l, cp, elems, rest, n, hmn, hcs, hy2, _, hl, hm, hlen, hel, _, _⟩
  · exact ⟨_, [], hcs, ⟨none, 0, rfl, by simp, Lib.hid fun j hj => absurd hj (by simp)⟩, by simp, by simp⟩
  · refine ⟨.slice (some y) l cp, ?_⟩
    rw [cellsTy13] at hel
    have hl32 : l * 32 ≤ 140737488351232 := by
      have := hw ((elems.length + rest.length) * 32) (by rw [hy2]; simp [DataW.weights, Tryz.underlying32, bytesTy13])
      simp only [reachBytes] at this
      omega
    have hex : ∀ i : Nat, ∃ a : Mt.Ty, i < l → (W.cell? (y.add (i * 4)) = some (.string (Mt.str a.name)) ∧ W.cell? ((y.add (i * 4)).add 1) = some (.int .i64 a.syn) ∧ W.cell? ((y.add (i * 4)).add 2) = some (.bool a.single) ∧ W.cell? ((y.add (i * 4)).add 3) = some (.bool a.oper)) ∧ a.name.length ≤ 140737488351232 := by
      intro i
      by_cases hin : i < l
      · have h := hel i hin
        rw [List.getElem?_eq_getElem (by omega)] at h
        obtain ⟨cs', hc, ht⟩ := Option.bind_eq_some_iff.1 h
        obtain ⟨_, hcl, hat⟩ := World.cells?_some hc
        have hmem : elems[i].1 ∈ elems.map (·.1) := List.mem_map.2 ⟨elems[i], List.getElem_mem _, rfl⟩
        have hwe : ∀ k ∈ elems[i].1.weights Tryz.prog 71, k ≤ reachBytes := fun k hk => hw k (by
          rw [hy2]; simp only [DataW.weights, Tryz.underlying32, List.mem_cons, List.mem_append]
          exact .inr (.inl (weightsAll_mem13 hmem hk)))
        obtain ⟨xs, m2, _, hxx, _, hxl, hg⟩ := DataW.trod_struct Tryz.underlying71 ht
        obtain ⟨c0, c1, c2, c3, rfl⟩ : ∃ c0 c1 c2 c3, cs' = [c0, c1, c2, c3] := by
          match cs', hcl with
          | [c0, c1, c2, c3], _ => exact ⟨c0, c1, c2, c3, rfl⟩
        obtain ⟨y0, y1, y2, y3, rfl⟩ : ∃ y0 y1 y2 y3, xs = [y0, y1, y2, y3] := by
          match xs, hxl with
          | [y0, y1, y2, y3], _ => exact ⟨y0, y1, y2, y3, rfl⟩
        · skip
          obtain ⟨S, e0, hy0, _⟩ := DataW.trod_string Tryz.underlying9 (x := y0) (by simpa [cellsStr13, Value.cells] using hg 0 _ rfl)
          obtain ⟨I, e1, _⟩ := DataW.trod_int Tryz.underlying3 (x := y1) (by simpa [cellsStr13, cellsInt13, Value.cells] using hg 1 _ rfl)
          obtain ⟨B1, e2, _⟩ := DataW.trod_bool Tryz.underlying4 (x := y2) (by simpa [cellsStr13, cellsInt13, cellsBool13, Value.cells] using hg 2 _ rfl)
          obtain ⟨B2, e3, _⟩ := DataW.trod_bool Tryz.underlying4 (x := y3) (by simpa [cellsStr13, cellsInt13, cellsBool13, Value.cells] using hg 3 _ rfl)
          simp only [List.cons.injEq, and_true] at e0 e1 e2 e3
          subst e0 e1 e2 e3
          have hx1 : elems[i].1 = .agg [y0.1, y1.1, y2.1, y3.1] := by rw [hxx]; rfl
          have hs0 : S.data.toList.length ≤ reachBytes := hwe _ (by
            rw [hx1]; simp only [DataW.weights, Tryz.underlying71, List.map_cons, List.map_nil, DataW.weightsEach, List.mem_append]
            exact .inl (by rw [hy0]; simp [DataW.weights]))
          refine ⟨⟨S.data.toList, I, B1, B2⟩, fun _ => ⟨⟨?_, hat 1 (by decide), hat 2 (by decide), hat 3 (by decide)⟩, hs0⟩⟩
          have := hat 0 (by decide); rw [add13_zero] at this; exact this
      · exact ⟨Mt.noTy, fun h => absurd h hin⟩
    obtain ⟨f, hfm⟩ := Classical.axiomOfChoice hex
    have hlD : ((List.range l).map f).length = l := by simp
    refine ⟨(List.range l).map f, by simpa [Value.cells] using hcs, ⟨some y, cp, by rw [hlD], by rw [hlD]; omega, Lib.hid fun j hj => ?_⟩, by rw [hlD]; omega, fun a ha => ?_⟩
    · have hin : j < l := by rw [hlD] at hj; exact hj
      have hv := (hfm 0 (by omega)).1.1
      rw [Nat.zero_mul, add13_zero] at hv
      obtain ⟨b, off, rfl⟩ := addr13_none hv
      have h2 := (hfm j hin).1
      rw [add_off, add_off, add_off, add_off] at h2
      exact ⟨b, off, rfl, World.block_lt_of_cell? W _ hv, by simpa using h2.1, by simpa using h2.2.1, by simpa using h2.2.2.1, by simpa using h2.2.2.2⟩
    · obtain ⟨i, hi, rfl⟩ := List.mem_map.1 ha
      exact (hfm i (List.mem_range.1 hi)).2
set_option maxRecDepth 100000 in
set_option maxHeartbeats 1000000 in
/-- Classes that came in. -/
theorem open_cls {H : Type} {enc : TypeId × Value → H} {W : World} {fu : Nat} {cs : List Value} {x : DataW H × List MemPlace} (hf : DataW.trod enc Tryz.prog W 0 (fun _ => true) true fu 33 cs = some x)
    (hw : ∀ k ∈ x.1.weights Tryz.prog 33, k ≤ reachBytes) : ∃ v l, cs = [v] ∧ IsCls W v l ∧ l.length ≤ 4398046511104 ∧ (∀ c ∈ l, c.name.length ≤ 140737488351232 ∧ c.sup.length ≤ 140737488351232 ∧ c.must.length ≤ 8796093022208 ∧ c.may.length ≤ 8796093022208 ∧ (∀ n ∈ c.must, n.length ≤ 140737488351232) ∧ ∀ n ∈ c.may, n.length ≤ 140737488351232) ∧ ∀ c ∈ l, c.must.length + c.may.length ≤ Rows.uptoBulk x.1 := by
  rcases DataW.trod_slice Tryz.underlying33 hf with ⟨hcs, _⟩ | ⟨y, l, cp, elems, rest, n, hmn, hcs, hy2, _, hl, hm, hlen, hel, _, _⟩
  · exact ⟨_, [], hcs, ⟨none, 0, rfl, by simp, Lib.hid fun j hj => absurd hj (by simp)⟩, by simp, by simp, by simp⟩
  · refine ⟨.slice (some y) l cp, ?_⟩
    rw [cellsOc13] at hel
    have hl88 : l * 88 ≤ 140737488351232 := by
      have := hw ((elems.length + rest.length) * 88) (by rw [hy2]; simp [DataW.weights, Tryz.underlying33, bytesOc13])
      simp only [reachBytes] at this
      omega
    have hex : ∀ i : Nat, ∃ q : Mt.Cl × Value × Value, i < l → ((W.cell? (y.add (i * 5)) = some (.string (Mt.str q.1.name)) ∧ W.cell? ((y.add (i * 5)).add 1) = some (.string (Mt.str q.1.sup)) ∧ W.cell? ((y.add (i * 5)).add 2) = some (.int .i64 q.1.kind) ∧ W.cell? ((y.add (i * 5)).add 3) = some q.2.1 ∧ W.cell? ((y.add (i * 5)).add 4) = some q.2.2) ∧ IsNms W q.2.1 q.1.must ∧ IsNms W q.2.2 q.1.may) ∧ (q.1.name.length ≤ 140737488351232 ∧ q.1.sup.length ≤ 140737488351232 ∧ q.1.must.length ≤ 8796093022208 ∧ q.1.may.length ≤ 8796093022208 ∧ (∀ n ∈ q.1.must, n.length ≤ 140737488351232) ∧ ∀ n ∈ q.1.may, n.length ≤ 140737488351232) ∧ q.1.must.length + q.1.may.length ≤ Rows.uptoBulk x.1 := by
      intro i
      by_cases hin : i < l
      · have h := hel i hin
        rw [List.getElem?_eq_getElem (by omega)] at h
        obtain ⟨cs', hc, ht⟩ := Option.bind_eq_some_iff.1 h
        obtain ⟨_, hcl, hat⟩ := World.cells?_some hc
        have hmem : elems[i].1 ∈ elems.map (·.1) := List.mem_map.2 ⟨elems[i], List.getElem_mem _, rfl⟩
        have hwe : ∀ k ∈ elems[i].1.weights Tryz.prog 73, k ≤ reachBytes := fun k hk => hw k (by
          rw [hy2]; simp only [DataW.weights, Tryz.underlying33, List.mem_cons, List.mem_append]
          exact .inr (.inl (weightsAll_mem13 hmem hk)))
        obtain ⟨xs, m2, _, hxx, _, hxl, hg⟩ := DataW.trod_struct Tryz.underlying73 ht
        obtain ⟨c0, c1, c2, c3, c4, rfl⟩ : ∃ c0 c1 c2 c3 c4, cs' = [c0, c1, c2, c3, c4] := by
          match cs', hcl with
          | [c0, c1, c2, c3, c4], _ => exact ⟨c0, c1, c2, c3, c4, rfl⟩
        obtain ⟨y0, y1, y2, y3, y4, rfl⟩ : ∃ y0 y1 y2 y3 y4, xs = [y0, y1, y2, y3, y4] := by
          match xs, hxl with
          | [y0, y1, y2, y3, y4], _ => exact ⟨y0, y1, y2, y3, y4, rfl⟩
        · skip
          have hx1 : elems[i].1 = .agg [y0.1, y1.1, y2.1, y3.1, y4.1] := by rw [hxx]; rfl
          have hw3 : ∀ k ∈ y3.1.weights Tryz.prog 47, k ≤ reachBytes := fun k hk => hwe k (by
            rw [hx1]; simp only [DataW.weights, Tryz.underlying73, List.map_cons, List.map_nil, DataW.weightsEach, List.mem_append]
            exact .inr (.inr (.inr (.inl hk))))
          have hw4 : ∀ k ∈ y4.1.weights Tryz.prog 47, k ≤ reachBytes := fun k hk => hwe k (by
            rw [hx1]; simp only [DataW.weights, Tryz.underlying73, List.map_cons, List.map_nil, DataW.weightsEach, List.mem_append]
            exact .inr (.inr (.inr (.inr (.inl hk)))))
          obtain ⟨S, e0, hy0, _⟩ := DataW.trod_string Tryz.underlying9 (x := y0) (by simpa [cellsStr13, Value.cells] using hg 0 _ rfl)
          obtain ⟨U, e1, hy1, _⟩ := DataW.trod_string Tryz.underlying9 (x := y1) (by simpa [cellsStr13, Value.cells] using hg 1 _ rfl)
          obtain ⟨I, e2, _⟩ := DataW.trod_int Tryz.underlying3 (x := y2) (by simpa [cellsStr13, cellsInt13, Value.cells] using hg 2 _ rfl)
          obtain ⟨v3, l3, e3, hn3, hb3, hs3, hk3⟩ := open_nms (x := y3) (cs := [c3]) (by simpa [cellsStr13, cellsInt13, cellsStrs13, Value.cells] using hg 3 _ rfl) rfl hw3
          obtain ⟨v4, l4, e4, hn4, hb4, hs4, hk4⟩ := open_nms (x := y4) (cs := [c4]) (by simpa [cellsStr13, cellsInt13, cellsStrs13, Value.cells] using hg 4 _ rfl) rfl hw4
          simp only [List.cons.injEq, and_true] at e0 e1 e2 e3 e4
          subst e0 e1 e2 e3 e4
          have hs0 : S.data.toList.length ≤ reachBytes := hwe _ (by
            rw [hx1]; simp only [DataW.weights, Tryz.underlying73, List.map_cons, List.map_nil, DataW.weightsEach, List.mem_append]
            exact .inl (by rw [hy0]; simp [DataW.weights]))
          have hs1 : U.data.toList.length ≤ reachBytes := hwe _ (by
            rw [hx1]; simp only [DataW.weights, Tryz.underlying73, List.map_cons, List.map_nil, DataW.weightsEach, List.mem_append]
            exact .inr (.inl (by rw [hy1]; simp [DataW.weights])))
          have hbe : Rows.uptoBulk elems[i].1 = Rows.uptoBulkAll [y0.1, y1.1, y2.1, y3.1, y4.1] + 1 := by rw [hx1]; rfl
          have hbm := bulk13_mem hmem
          have hbx : Rows.uptoBulk x.1 = Rows.uptoBulkAll (elems.map (·.1)) + Rows.uptoBulkAll (rest.map (·.1)) + 1 := by rw [hy2]; rfl
          simp only [Rows.uptoBulkAll] at hbe
          refine ⟨(⟨S.data.toList, U.data.toList, I, l3, l4⟩, c3, c4), fun _ => ⟨⟨⟨?_, hat 1 (by decide), hat 2 (by decide), hat 3 (by decide), hat 4 (by decide)⟩, hn3, hn4⟩, ⟨hs0, hs1, hb3, hb4, hs3, hs4⟩, by show l3.length + l4.length ≤ _; omega⟩⟩
          have := hat 0 (by decide); rw [add13_zero] at this; exact this
      · exact ⟨(Mt.noCl, .bool false, .bool false), fun h => absurd h hin⟩
    obtain ⟨f, hfm⟩ := Classical.axiomOfChoice hex
    have hlD : ((List.range l).map fun i => (f i).1).length = l := by simp
    refine ⟨(List.range l).map fun i => (f i).1, by simpa [Value.cells] using hcs, ⟨some y, cp, by rw [hlD], by rw [hlD]; omega, Lib.hid fun j hj => ?_⟩, by rw [hlD]; omega, fun a ha => ?_, fun a ha => ?_⟩
    · have hin : j < l := by rw [hlD] at hj; exact hj
      have hv := (hfm 0 (by omega)).1.1.1
      rw [Nat.zero_mul, add13_zero] at hv
      obtain ⟨b, off, rfl⟩ := addr13_none hv
      obtain ⟨⟨h0, h1, h2, h3, h4⟩, h5, h6⟩ := (hfm j hin).1
      rw [add_off] at h0 h1 h2 h3 h4
      rw [add_off] at h1 h2 h3 h4
      exact ⟨b, off, (f j).2.1, (f j).2.2, rfl, World.block_lt_of_cell? W _ hv, by simpa using h0, by simpa using h1, by simpa using h2, by simpa using h3, by simpa using h4, by simpa using h5, by simpa using h6⟩
    · obtain ⟨i, hi, rfl⟩ := List.mem_map.1 ha
      exact (hfm i (List.mem_range.1 hi)).2.1
    · obtain ⟨i, hi, rfl⟩ := List.mem_map.1 ha
      exact (hfm i (List.mem_range.1 hi)).2.2
open Go.ChangeShapes Go.WideShapes Go.ChangeAt
theorem cellsSch13 : Tryz.prog.cellsOf 35 = 2 := by kernel_rfl
theorem cellsTys13 : Tryz.prog.cellsOf 32 = 1 := by kernel_rfl
theorem cellsOcs13 : Tryz.prog.cellsOf 33 = 1 := by kernel_rfl
set_option maxRecDepth 100000 in
theorem open_sch {H : Type} {enc : TypeId × Value → H} {W : World} {r : Reach} {b0 : Nat} {v : Value} {d : DataW H} {p : List MemPlace} {ts : List TypeId} {ds : List (DataW H)} {j : Nat} (hv : Value.okWide Tryz.prog W r b0 35 v) (h : DataW.Trod enc Tryz.prog W 0 (fun _ => true) true 35 v d p)
    (ht : ts[j]? = some 35) (hd : ds[j]? = some d) (hsz : (DataW.weightsEach Tryz.prog ts ds).all (· ≤ reachBytes) = true) : ∃ (tv cv : Value) (s : Mt.Sc), v = .agg #[tv, cv] ∧ IsSc W tv cv s := by
  have hwt : ∀ k ∈ d.weights Tryz.prog 35, k ≤ reachBytes := fun k hk => by
    have := List.all_eq_true.1 hsz _ (DataW.weights_mem_each ht hd k hk)
    simpa using this
  obtain ⟨cs, rfl, hz⟩ := okWide_struct Tryz.underlying35 hv
  rw [cellsSch13] at hz
  obtain ⟨fuel, hf⟩ := h
  obtain ⟨l⟩ := cs
  obtain ⟨c0, c1, rfl⟩ : ∃ c0 c1, l = [c0, c1] := by
    match l, hz with
    | [c0, c1], _ => exact ⟨c0, c1, rfl⟩
  have hf2 : DataW.trod enc Tryz.prog W 0 (fun _ => true) true fuel 35 [c0, c1] = some (d, p) := by simpa [Value.cells] using hf
  obtain ⟨xs, m2, _, hxx, _, hxl, hg⟩ := DataW.trod_struct Tryz.underlying35 hf2
  obtain ⟨y0, y1, rfl⟩ : ∃ y0 y1, xs = [y0, y1] := by
    match xs, hxl with
    | [y0, y1], _ => exact ⟨y0, y1, rfl⟩
  have hx1 : d = .agg [y0.1, y1.1] := by simpa using congrArg Prod.fst hxx
  obtain ⟨tv, tl, e0, h0, n0, m0⟩ := open_tys (x := y0) (by simpa [cellsTys13, Value.cells] using hg 0 _ rfl) (fun k hk => hwt k (by
    rw [hx1]; simp only [DataW.weights, Tryz.underlying35, List.map_cons, List.map_nil, DataW.weightsEach, List.mem_append]
    exact .inl hk))
  obtain ⟨cv, cl, e1, h1, n1, m1, -⟩ := open_cls (x := y1) (by simpa [cellsTys13, cellsOcs13, Value.cells] using hg 1 _ rfl) (fun k hk => hwt k (by
    rw [hx1]; simp only [DataW.weights, Tryz.underlying35, List.map_cons, List.map_nil, DataW.weightsEach, List.mem_append]
    exact .inr (.inl hk)))
  simp only [List.cons.injEq, and_true] at e0 e1
  subst e0 e1
  exact ⟨c0, c1, ⟨tl, cl⟩, rfl, h0, h1, n0, n1, m0, m1⟩

set_option maxRecDepth 100000 in
theorem open_schS {H : Type} {enc : TypeId × Value → H} {W : World} {r : Reach} {b0 : Nat} {v : Value} {d : DataW H} {p : List MemPlace} {ts : List TypeId} {ds : List (DataW H)} {j : Nat} (hv : Value.okWide Tryz.prog W r b0 35 v) (h : DataW.Trod enc Tryz.prog W 0 (fun _ => true) true 35 v d p)
    (ht : ts[j]? = some 35) (hd : ds[j]? = some d) (hsz : (DataW.weightsEach Tryz.prog ts ds).all (· ≤ reachBytes) = true) (hk : Rows.uptoSmall H ds = true) : ∃ (tv cv : Value) (s : Mt.Sc), v = .agg #[tv, cv] ∧ IsSc W tv cv s ∧ ∀ c ∈ s.classes, c.must.length + c.may.length ≤ 1048576 := by
  have hwt : ∀ k ∈ d.weights Tryz.prog 35, k ≤ reachBytes := fun k hk => by
    have := List.all_eq_true.1 hsz _ (DataW.weights_mem_each ht hd k hk)
    simpa using this
  obtain ⟨cs, rfl, hz⟩ := okWide_struct Tryz.underlying35 hv
  rw [cellsSch13] at hz
  obtain ⟨fuel, hf⟩ := h
  obtain ⟨l⟩ := cs
  obtain ⟨c0, c1, rfl⟩ : ∃ c0 c1, l = [c0, c1] := by
    match l, hz with
    | [c0, c1], _ => exact ⟨c0, c1, rfl⟩
  have hf2 : DataW.trod enc Tryz.prog W 0 (fun _ => true) true fuel 35 [c0, c1] = some (d, p) := by simpa [Value.cells] using hf
  obtain ⟨xs, m2, _, hxx, _, hxl, hg⟩ := DataW.trod_struct Tryz.underlying35 hf2
  obtain ⟨y0, y1, rfl⟩ : ∃ y0 y1, xs = [y0, y1] := by
    match xs, hxl with
    | [y0, y1], _ => exact ⟨y0, y1, rfl⟩
  have hx1 : d = .agg [y0.1, y1.1] := by simpa using congrArg Prod.fst hxx
  obtain ⟨tv, tl, e0, h0, n0, m0⟩ := open_tys (x := y0) (by simpa [cellsTys13, Value.cells] using hg 0 _ rfl) (fun k hk => hwt k (by
    rw [hx1]; simp only [DataW.weights, Tryz.underlying35, List.map_cons, List.map_nil, DataW.weightsEach, List.mem_append]
    exact .inl hk))
  obtain ⟨cv, cl, e1, h1, n1, m1, k1⟩ := open_cls (x := y1) (by simpa [cellsTys13, cellsOcs13, Value.cells] using hg 1 _ rfl) (fun k hk => hwt k (by
    rw [hx1]; simp only [DataW.weights, Tryz.underlying35, List.map_cons, List.map_nil, DataW.weightsEach, List.mem_append]
    exact .inr (.inl hk)))
  simp only [List.cons.injEq, and_true] at e0 e1
  subst e0 e1
  have hbk : Rows.uptoBulk d ≤ 1048576 := Nat.le_trans (bulk13_mem (List.mem_of_getElem? hd)) (of_decide_eq_true hk)
  have hbd : Rows.uptoBulk d = Rows.uptoBulkAll [y0.1, y1.1] + 1 := by rw [hx1]; rfl
  simp only [Rows.uptoBulkAll] at hbd
  exact ⟨c0, c1, ⟨tl, cl⟩, rfl, ⟨h0, h1, n0, n1, m0, m1⟩, fun c hc => by have := k1 c hc; omega⟩
/-- Names that came in, as an argument. -/
theorem open_nmsA {H : Type} {enc : TypeId × Value → H} {W : World} {a : Option Addr} {n c : Nat} {d : DataW H} {p : List MemPlace} {ts : List TypeId} {ds : List (DataW H)} {j : Nat} (h : DataW.Trod enc Tryz.prog W 0 (fun _ => true) true 47 (.slice a n c) d p)
    (ht : ts[j]? = some 47) (hd : ds[j]? = some d) (hsz : (DataW.weightsEach Tryz.prog ts ds).all (· ≤ reachBytes) = true) : ∃ l, IsNms W (.slice a n c) l ∧ FitN l := by
  have hwt : ∀ k ∈ d.weights Tryz.prog 47, k ≤ reachBytes := fun k hk => by
    have := List.all_eq_true.1 hsz _ (DataW.weights_mem_each ht hd k hk)
    simpa using this
  obtain ⟨fuel, hf⟩ := h
  have hf2 : DataW.trod enc Tryz.prog W 0 (fun _ => true) true fuel 47 [.slice a n c] = some (d, p) := by simpa [Value.cells] using hf
  obtain ⟨v, l, e, hl, hn, hs, -⟩ := open_nms hf2 rfl hwt
  simp only [List.cons.injEq, and_true] at e
  subst e
  exact ⟨l, hl, hn, hs⟩
end Go.Proofs.YtngdbhncafnliaaGreat
