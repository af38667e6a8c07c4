/-
  Places left out of a row: slices.Delete; a connection's row set.
-/
import Derived.Test.YtmdhioifdnaajaaPgB
set_option linter.unusedVariables false
set_option linter.unusedSimpArgs false
namespace Go.Proofs.Ytmdhioifdnaajaa
open Go.RowKit Go.Shelf

theorem Try.zeroPlace (u : World) : (zeroValue 49).run Try.prog u = .ok (.agg #[.int .u64 0, .string .empty, .int .i64 0, .int .i64 0]) u := by kernel_rfl
set_option maxRecDepth 100000 in
set_option maxHeartbeats 1000000 in
/-- Those from i to j are left out of a row. -/
theorem deletePG_any {w : World} {g : Nat} {v : Value} {l : List Mt.Pl} (hv : IsRw 49 4 w g v l.length (plsC l)) (hn : l.length ≤ 1000) (i j : Nat) (hij : i ≤ j) (hj : j ≤ l.length) :
    Calls Try.prog 18 #[v, .int .i64 (i : Int), .int .i64 (j : Int)] w fun e w' => ∃ a c, e = .returned (.slice a (l.take i ++ l.drop j).length c) ∧ IsRw 49 4 w' g (.slice a (l.take i ++ l.drop j).length c) (l.take i ++ l.drop j).length (plsC (l.take i ++ l.drop j)) ∧ OnlyS [g] w w' := by
  have HV := Lib.hid hv
  have hle : (l.take i ++ l.drop j).length = i + (l.length - j) := by rw [List.length_append, List.length_take, List.length_drop]; omega
  rw [hle]
  obtain ⟨a, cap, rfl⟩ := hv.form
  have hcap : l.length ≤ cap := by
    rcases hv.2 with ⟨_, e⟩ | ⟨off, c2, cur, e, _, h3, _⟩
    · injection e with _ e2 e3; omega
    · injection e with _ e2 e3; omega
  have b0 : (0 : Int) ≤ (i : Int) := by omega
  have b1 : (i : Int) ≤ (j : Int) := by omega
  have b2 : (j : Int) ≤ (l.length : Int) := by omega
  have b3 : (l.length : Int) ≤ (cap : Int) := by omega
  have b4 : (0 : Int) ≤ (j : Int) := by omega
  have b5 : (i : Int) ≤ (cap : Int) := by omega
  have b6 : (j : Int) ≤ (cap : Int) := by omega
  have b7 : i ≤ cap := by omega
  have b8 : j ≤ cap := by omega
  by_cases he : i = j
  · subst he
    rw [List.take_append_drop, show i + (l.length - i) = l.length by omega]
    have d1 : ((i : Int) == (i : Int)) = true := beq_self_eq_true _
    generalize l.length = n at *
    clear hv hle
    go_enter Try.func18, Try.ntmps18
    go_wp2_with fail
    all_goals (go_ret; first | exact ⟨a, cap, rfl, HV.out, OnlyS.refl _ _⟩ | (rename_i h; subst h; exact ⟨a, cap, rfl, HV.out, OnlyS.refl _ _⟩))
  · have hpos : 0 < l.length := by omega
    obtain ⟨off, cap2, _, e, _⟩ := hv.hasBlock hpos
    obtain ⟨rfl, rfl⟩ : a = some ⟨g, off, none⟩ ∧ cap = cap2 := by injection e with e1 e2 e3; exact ⟨e1, e3⟩
    clear e
    obtain ⟨i0, hi, hz0, hz1, hz2⟩ := info_parts Try.infoPlace
    obtain ⟨aj, haj⟩ : ∃ aj : Option Addr, aj = if cap = j then some ⟨g, off, none⟩ else some ⟨g, off + j * 4, none⟩ := ⟨_, rfl⟩
    obtain ⟨w1, hrun, hrw, ho⟩ := (IsRw.kept (u := w.drew) hv rfl).del (T := 44) Try.underlying44 hi hz1 (plsC_one l) i j hij hj aj haj
    rw [plsC_take, plsC_drop, ← plsC_append] at hrw
    obtain ⟨w2, hcl, hrw2, ho2⟩ := hrw.clear (s := 4) (T := 44) (z := .agg #[.int .u64 0, .string .empty, .int .i64 0, .int .i64 0]) Try.underlying44 Try.zeroPlace rfl (by intro u hu; simp [Value.cells] at hu; rcases hu with rfl | rfl | rfl | rfl <;> rfl) (j - i) (cap - (i + (l.length - j))) (by omega) (by omega)
    have HR := Lib.hid (And.intro hrw2 ((OnlyS.refl [g] w).drew.trans (ho.trans ho2)))
    have d1 : ((i : Int) == (j : Int)) = false := by rw [beq_eq_false_iff_ne]; omega
    generalize hn0 : l.length = n at *
    obtain ⟨N1, hN1⟩ : ∃ N1, i + (n - j) = N1 := ⟨_, rfl⟩
    rw [hN1] at hrun hcl HR ⊢
    have hmi : j - i = n - N1 := by omega
    rw [hmi] at hcl
    have c1 : (N1 : Int) ≤ (n : Int) := by omega
    have c2 : (0 : Int) ≤ (N1 : Int) := by omega
    have c3 : N1 ≤ n := by omega
    have c4 : ¬ (cap = N1) := by omega
    have c5 : (n : Int) ≤ (cap : Int) := by omega
    have c6 : N1 ≤ cap := by omega
    clear hv hle hrw hrw2 ho ho2 hi hz0 hz1 hz2 hN1 hn0 hmi
    by_cases hcj : cap = j
    · obtain rfl : cap = n := by omega
      subst hcj
      rw [if_pos rfl] at haj
      subst haj
      simp only [Nat.sub_self] at hrun
      go_enter Try.func18, Try.ntmps18
      go_upto_region 5 with fail
      go_region_law (refine step_append_eq rfl _ _ 44 44 rfl (.slice (some ⟨g, off, none⟩) i cap) (.slice (some ⟨g, off, none⟩) 0 0) (by rfl) (by rfl) hrun ?_)
      all_goals (go_wp2_with fail)
      all_goals (go_ret; exact ⟨_, _, rfl, HR.out⟩)
    · rw [if_neg hcj] at haj
      subst haj
      go_enter Try.func18, Try.ntmps18
      go_upto_region 5 with fail
      go_region_law (refine step_append_eq rfl _ _ 44 44 rfl (.slice (some ⟨g, off, none⟩) i cap) (.slice (some ⟨g, off + j * 4, none⟩) (n - j) (cap - j)) (by rfl) (by rfl) hrun ?_)
      all_goals (go_wp2_with fail)
      all_goals (go_ret; exact ⟨_, _, rfl, HR.out⟩)
end Go.Proofs.Ytmdhioifdnaajaa
