/-
  Whether a name is in a list; what must be there of two lists of classes.
-/
import Derived.Test.YthkhicpkkmhfbaaScYa
import Derived.Test.YthkhicpkkmhfbaaScO
import Derived.Test.YthkhicpkkmhfbaaRFold
namespace Go.Proofs.Ythkhicpkkmhfbaa
open Go.RowKit

set_option maxRecDepth 100000 in
set_option maxHeartbeats 2000000 in
theorem has13_any {l : List (List UInt8)} {w : World} {a : Value} (h : IsNms w a l) (t : List UInt8) (hn : l.length ≤ 8796093022208) :
    Calls Try.prog 28 #[a, .string (Mt.str t)] w fun e w' => e = .returned (.bool (decide (t ∈ l))) ∧ Below w.heap.size w w' := by
  obtain ⟨x, xc, rfl, hxc, HX⟩ := h
  obtain ⟨n, hn1⟩ : ∃ n, l.length = n := ⟨_, rfl⟩
  have HN := Lib.hid hn1
  rw [hn1] at hxc hn ⊢
  obtain ⟨R, hR⟩ : ∃ R, decide (t ∈ l) = R := ⟨_, rfl⟩
  rw [hR]
  have HR := Lib.hid hR
  have HEQ := Lib.hid (fun p => Mt.str_beq p t)
  generalize Mt.str t = T at *
  clear hn1 hR
  go_enter Try.func28, Try.ntmps28
  go_wp2_with fail
  go_loopw [9] (fun iv wr => ∃ i : Nat, i ≤ n ∧ iv = .int .i64 (i : Int) ∧ Hid (t ∉ l.take i) ∧ Hid (Below w.heap.size w wr)) (fun iv _ => n - (intOf iv).toNat)
  case atStart => exact ⟨0, Nat.zero_le _, rfl, Lib.hid (by simp), Lib.hid (Below.refl _ _)⟩
  case round =>
    obtain ⟨i, hi, rfl, HI, HB⟩ := hrel
    by_cases hlt : i < n
    · have e1 : decide ((i : Int) < (n : Int)) = true := decide_eq_true (by omega)
      have e2 : decide (i < n) = true := decide_eq_true hlt
      have hi1 : i < l.length := by rw [HN.out]; exact hlt
      obtain ⟨b1, o1, e3, hb1, hc1⟩ := HX.out i hi1
      subst e3
      have x0 := (HB.out.cell (p := ⟨b1, o1 + i, none⟩) hb1).trans hc1
      have i0 : (0 : Int) ≤ (i : Int) := by omega
      have i1 : (i : Int) < (n : Int) := by omega
      have t1 := List.take_succ_eq_append_getElem hi1
      have hmem := List.getElem_mem hi1
      have e5 := HEQ.out l[i]
      generalize l[i] = p at *
      by_cases hpq : p = t
      · rw [decide_eq_true hpq] at e5
        have HE : Hid (R = true) := Lib.hid (by rw [← HR.out]; exact decide_eq_true (hpq ▸ hmem))
        generalize Mt.str p = P at *
        clear hc1 hb1 t1 hmem hi1 hpq
        go_wp2_with fail
        all_goals (go_ret; exact ⟨Mt.ret_bool HE.out.symm, HB.out⟩)
      · rw [decide_eq_false hpq] at e5
        have HI2 : Hid (t ∉ l.take (i + 1)) := Lib.hid (by
          rw [t1, List.mem_append, List.mem_singleton]
          rintro (h | h)
          · exact HI.out h
          · exact hpq h.symm)
        generalize Mt.str p = P at *
        clear hc1 hb1 t1 hmem hi1 hpq
        go_wp2_with fail
        go_roundw
        case rel => exact ⟨i + 1, by omega, by go_num, HI2, HB⟩
        case measure => simp [intOf]; omega
    · obtain rfl : i = n := by omega
      have e1 : decide ((i : Int) < (i : Int)) = false := decide_eq_false (by omega)
      have e2 : decide (i < i) = false := decide_eq_false (by omega)
      have HE : Hid (R = false) := Lib.hid (by
        rw [← HR.out]
        refine decide_eq_false ?_
        have := HI.out
        rwa [List.take_of_length_le (by rw [HN.out]; exact Nat.le_refl _)] at this)
      go_wp2_with fail
      all_goals (go_ret; exact ⟨Mt.ret_bool HE.out.symm, HB.out⟩)
namespace Mt
theorem mem_those {M Y : List (List UInt8)} {k : Int} {x : List UInt8} : x ∈ those M Y k ↔ (x ∈ M ∨ x ∈ Y) ∧ val M Y x = k := by
  unfold those
  rw [List.mem_mergeSort, List.mem_filter, mem_dd, List.mem_append, decide_eq_true_eq]
theorem mem_those2 {M Y : List (List UInt8)} {x : List UInt8} : x ∈ those M Y 2 ↔ x ∈ M := by
  rw [mem_those]
  unfold val
  by_cases h : x ∈ M
  · simp [h]
  · by_cases h2 : x ∈ Y <;> simp [h, h2]
theorem mem_those1 {M Y : List (List UInt8)} {x : List UInt8} : x ∈ those M Y 1 ↔ x ∉ M ∧ x ∈ Y := by
  rw [mem_those]
  unfold val
  by_cases h : x ∈ M
  · simp [h]
  · by_cases h2 : x ∈ Y <;> simp [h, h2]
theorem union_mem (s : Sc) (one two : List (List UInt8)) (x : List UInt8) : x ∈ (wantsS s (one ++ two)).1 ↔ x ∈ (wantsS s one).1 ∨ x ∈ (wantsS s two).1 := by
  unfold wantsS
  simp only [mem_those2, idxs_app, mustI_app, List.mem_append]
theorem union_may (s : Sc) (cs : List (List UInt8)) (x : List UInt8) (h : x ∈ (wantsS s cs).1) : x ∉ (wantsS s cs).2 := by
  unfold wantsS at *
  simp only [mem_those2, mem_those1] at *
  exact fun hh => hh.1 h
theorem fold_idem (l : List UInt8) : foldL (foldL l) = foldL l := by
  unfold foldL
  rw [List.map_map]; congr 1; funext c; exact sm_sm c
theorem union_fold (s : Sc) (cs : List (List UInt8)) (x : List UInt8) (h : x ∈ (wantsS s cs).1) : foldL x = x := by
  unfold wantsS mustI at h
  simp only [mem_those2, List.mem_flatMap, List.mem_map] at h
  obtain ⟨_, _, y, _, rfl⟩ := h
  exact fold_idem y
theorem chkCl_lists {s : Sc} {i : Nat} (h : chkCl s i = 0) : ∀ x, x ∈ (clI s i).must ∨ x ∈ (clI s i).may → lacks s x = false := by
  unfold chkCl at h
  by_cases h1 : typL (clI s i).name = false
  · rw [if_pos h1] at h; cases h
  rw [if_neg h1] at h
  by_cases h2 : clAt s (clI s i).name < i
  · rw [if_pos h2] at h; cases h
  rw [if_neg h2] at h
  by_cases h3 : (clI s i).kind ≠ 0 ∧ (clI s i).kind ≠ 1 ∧ (clI s i).kind ≠ 2
  · rw [if_pos h3] at h; cases h
  rw [if_neg h3] at h
  by_cases h4 : chkSup s i = 0
  · rw [if_neg (fun hh => hh h4)] at h
    by_cases h5 : ((clI s i).must.any (lacks s) || (clI s i).may.any (lacks s)) = true
    · rw [if_pos h5] at h; cases h
    · simp only [Bool.or_eq_true, List.any_eq_true, not_or, not_exists, not_and, Bool.not_eq_true] at h5
      rintro x (hx | hx)
      · exact h5.1 x hx
      · exact h5.2 x hx
  · rw [if_pos h4] at h; exact absurd h h4
/-- The names that there are, where nothing is wrong. -/
theorem chk_names {s : Sc} (h : chk s = 0) : ∀ c ∈ s.classes, ∀ x, x ∈ c.must ∨ x ∈ c.may → foldL x ∈ s.types.map fun t => foldL t.name := by
  intro c hc x hx
  obtain ⟨i, hi, rfl⟩ := List.mem_iff_getElem.1 hc
  have hl := chkCl_lists (chk_cl h i hi) x (by rw [clI_get hi]; exact hx)
  unfold lacks at hl
  rw [decide_eq_false_iff_not] at hl
  unfold tyAt at hl
  rcases atL_spec (fun t : Ty => sameN t.name x) s.types with ⟨h1, _⟩ | ⟨m, h1, hm, h2, _⟩
  · rw [h1] at hl; omega
  · refine List.mem_map.2 ⟨_, List.getElem_mem hm, ?_⟩
    simpa [sameN] using h2
theorem nodup_those (M Y : List (List UInt8)) (k : Int) : (those M Y k).Nodup := by
  unfold those
  exact (List.mergeSort_perm _ _).nodup_iff.2 ((nodup_dd _).filter _)
theorem lists_in {s : Sc} {T : List (List UInt8)} (hT : ∀ c ∈ s.classes, ∀ x, x ∈ c.must ∨ x ∈ c.may → foldL x ∈ T) (cs : List (List UInt8)) : ∀ x, x ∈ mustI s (idxs s cs) ∨ x ∈ mayI s (idxs s cs) → x ∈ T := by
  have hlt : ∀ i ∈ idxs s cs, i < s.classes.length := fun i hi => by
    unfold idxs at hi
    obtain ⟨c, _, hc⟩ := List.mem_flatMap.1 hi
    exact chain_lt s c i hc
  rintro x (hx | hx)
  · unfold mustI at hx
    obtain ⟨i, hi, hx⟩ := List.mem_flatMap.1 hx
    obtain ⟨y, hy, rfl⟩ := List.mem_map.1 hx
    rw [clI_get (hlt i hi)] at hy
    exact hT _ (List.getElem_mem (hlt i hi)) y (.inl hy)
  · unfold mayI at hx
    obtain ⟨i, hi, hx⟩ := List.mem_flatMap.1 hx
    obtain ⟨y, hy, rfl⟩ := List.mem_map.1 hx
    rw [clI_get (hlt i hi)] at hy
    exact hT _ (List.getElem_mem (hlt i hi)) y (.inr hy)
theorem wants_in {s : Sc} {T : List (List UInt8)} (hT : ∀ c ∈ s.classes, ∀ x, x ∈ c.must ∨ x ∈ c.may → foldL x ∈ T) (cs : List (List UInt8)) : (∀ x, x ∈ (wantsS s cs).1 ∨ x ∈ (wantsS s cs).2 → x ∈ T) ∧ (wantsS s cs).1.length ≤ T.length ∧ (wantsS s cs).2.length ≤ T.length := by
  have h1 : ∀ x, x ∈ (wantsS s cs).1 ∨ x ∈ (wantsS s cs).2 → x ∈ T := by
    unfold wantsS
    rintro x (hx | hx)
    · exact lists_in hT cs x (mem_those.1 hx).1
    · exact lists_in hT cs x (mem_those.1 hx).1
  refine ⟨h1, ?_, ?_⟩
  · exact length_le_of_sub _ _ (nodup_those _ _ _) (fun x hx => h1 x (.inl hx))
  · exact length_le_of_sub _ _ (nodup_those _ _ _) (fun x hx => h1 x (.inr hx))
theorem chk_len {s : Sc} (h : chk s = 0) : s.types.length ≤ 128 ∧ s.classes.length ≤ 128 := by
  unfold chk at h
  by_cases h1 : 128 < s.types.length ∨ 128 < s.classes.length
  · rw [if_pos h1] at h; cases h
  · omega
end Mt
end Go.Proofs.Ythkhicpkkmhfbaa
