/-
  nest.Copy's step, where no element has any beneath.
-/
import Derived.Test.YtmdhioifdnaajaaNsC
import Derived.Deep.QuietTactic
import Derived.BigQuiet
set_option linter.unusedVariables false
set_option linter.unusedSimpArgs false
namespace Go.Proofs.Ytmdhioifdnaajaa
open Go.RowKit Go.Shelf

theorem IsRw.setG {E : TypeId} {s : Nat} {w : World} {g off n cap : Nat} {xs : List Value} (h : IsRw E s w g (.slice (some ⟨g, off, none⟩) n cap) n xs) (j : Nat) (hj : j < xs.length) (x : Value) :
    IsRw E s (w.setCell ⟨g, off + j, none⟩ x) g (.slice (some ⟨g, off, none⟩) n cap) n (xs.set j x) ∧ OnlyS [g] w (w.setCell ⟨g, off + j, none⟩ x) := by
  refine ⟨?_, (OnlyS.refl [g] w).setCell (by simp) x⟩
  obtain ⟨hl, h⟩ := h
  rcases h with ⟨_, h1⟩ | ⟨off2, cap2, cur, h1, h2, h3, h4, h5⟩
  · cases h1
  · obtain ⟨rfl, rfl⟩ : off = off2 ∧ cap = cap2 := by simpa using h1
    have hle : n * s ≤ cap * s := Nat.mul_le_mul_right s h3
    refine ⟨by rw [List.length_set]; exact hl, .inr ⟨off, cap, cur.setIfInBounds (off + j) x, rfl, heap_setCell_same w g _ cur E x h2, h3, by rw [Array.size_setIfInBounds]; exact h4, fun k hk => ?_⟩⟩
    rw [List.length_set] at hk
    rw [Array.getElem?_setIfInBounds, List.getElem_set]
    by_cases e : j = k
    · subst e
      rw [if_pos rfl, if_pos rfl, if_pos (by omega)]
    · rw [if_neg (by omega), if_neg e]; exact h5 k hk
/-- The four cells of the one level. -/
theorem CopyS.at {u : World} {cb lb mb gb : Nat} {lv : Value} {src : Addr} {n d : Nat} (h : CopyS u cb lb mb gb lv src n d) : ∃ off cap, lv = .slice (some ⟨lb, off, none⟩) 1 cap ∧ 1 ≤ cap ∧
    (u.cell? ⟨lb, off, none⟩ = some (.pointer (some src)) ∧ u.cell? ⟨lb, off + 1, none⟩ = some (.int .i64 (n : Int)) ∧ u.cell? ⟨lb, off + 2, none⟩ = some (.slice (some ⟨gb, 0, none⟩) n n) ∧ u.cell? ⟨lb, off + 3, none⟩ = some (.int .i64 (d : Int))) ∧ u.frozen? ⟨lb, off + 3, none⟩ = false := by
  obtain ⟨hl, h2⟩ := h.row
  rcases h2 with ⟨h0, _⟩ | ⟨off, cap, cur, e, h2, h3, h4, h5⟩
  · cases h0
  · have hc : ∀ j (hj : j < 4), u.cell? ⟨lb, off + j, none⟩ = cur[off + j]? := fun j _ => cell_of_row u lb _ cur _ _ h2
    refine ⟨off, cap, e, h3, ⟨?_, ?_, ?_, ?_⟩, frozen_of_row _ _ _ _ _ h2⟩
    · rw [show off = off + 0 by omega, hc 0 (by decide), h5 0 (by simp)]; rfl
    · rw [hc 1 (by decide), h5 1 (by simp)]; rfl
    · rw [hc 2 (by decide), h5 2 (by simp)]; rfl
    · rw [hc 3 (by decide), h5 3 (by simp)]; rfl
theorem CopyS.done {u : World} {cb lb mb gb : Nat} {lv : Value} {src : Addr} {n d off cap : Nat} (h : CopyS u cb lb mb gb lv src n d) (he : lv = .slice (some ⟨lb, off, none⟩) 1 cap) (hcl : lb ≠ cb) (hml : lb ≠ mb) (x : Nat) :
    CopyS (u.setCell ⟨lb, off + 3, none⟩ (.int .i64 (x : Int))) cb lb mb gb lv src n x ∧ OnlyS [lb] u (u.setCell ⟨lb, off + 3, none⟩ (.int .i64 (x : Int))) := by
  have hr := h.row
  rw [he] at hr
  obtain ⟨hs, ho⟩ := hr.setG 3 (by simp) (.int .i64 (x : Int))
  refine ⟨⟨?_, by rw [he]; exact hs, ?_⟩, ho⟩
  · exact (ho.block cb (lt_of_block h.box) (by simp; exact fun e => hcl e.symm)).trans h.box
  · obtain ⟨b, cl, hm⟩ := h.map
    exact ⟨b, cl, (ho.block mb (lt_of_block hm) (by simp; exact fun e => hml e.symm)).trans hm⟩
theorem CopyS.other {u u' : World} {cb lb mb gb : Nat} {lv : Value} {src : Addr} {n d : Nat} (h : CopyS u cb lb mb gb lv src n d) {S : List Nat} (ho : OnlyS S u u') (h1 : cb ∉ S) (h2 : lb ∉ S) (h3 : mb ∉ S) : CopyS u' cb lb mb gb lv src n d := by
  obtain ⟨b, cl, hm⟩ := h.map
  exact ⟨(ho.block cb (lt_of_block h.box) h1).trans h.box, h.row.other ho h2, b, cl, (ho.block mb (lt_of_block hm) h3).trans hm⟩
/-- No list in the place of no list. -/
theorem RowF.nil {g n : Nat} {fl : List (Int × ByteArray)} {u : World} (h : RowF g n n fl u) (hn : fl.length = n) {d : Nat} (hd : d < n) : u.cell? ⟨g, d * 3 + 2, none⟩ = some (.slice none 0 0) ∧ RowF g n n fl (u.setCell ⟨g, d * 3 + 2, none⟩ (.slice none 0 0)) ∧ OnlyS [g] u (u.setCell ⟨g, d * 3 + 2, none⟩ (.slice none 0 0)) := by
  obtain ⟨cur, h1, h2, h3⟩ := h
  have hg := (flC_get fl d (by omega)).2.2
  refine ⟨by rw [cell_of_row u g _ cur 62 (0, 0) h1, h3 _ (by omega)]; exact hg, ⟨_, heap_setCell_same u g _ cur 62 _ h1, by rw [Array.size_setIfInBounds]; exact h2, fun j hj => ?_⟩, (OnlyS.refl [g] u).setCell (by simp) _⟩
  rw [Array.getElem?_setIfInBounds]
  by_cases e : d * 3 + 2 = j
  · rw [if_pos e, if_pos (by omega), ← e]; exact hg.symm
  · rw [if_neg e]; exact h3 j hj
set_option maxRecDepth 100000 in
set_option maxHeartbeats 2000000 in
/-- One element's list: there is none. -/
theorem stepKid_any {fl : List (Int × ByteArray)} {n d cb lb mb gb : Nat} {lv : Value} {src : Addr} {u : World} (hn : fl.length = n) (h1 : n ≤ 1000) (hd : d < n) (h : CopyS u cb lb mb gb lv src n d) (hr : RowF gb n n fl u) (hcl : lb ≠ cb) (hml : lb ≠ mb) (hgl : gb ≠ lb) (hgc : gb ≠ cb) (hgm : gb ≠ mb) :
    Calls Try.prog 35 #[.pointer (some ⟨cb, 0, none⟩)] u fun e w' => e = .returned (.tuple #[]) ∧ CopyS w' cb lb mb gb lv src n (d + 1) ∧ RowF gb n n fl w' ∧ OnlyS [lb, gb] u w' := by
  obtain ⟨off, cap, rfl, hcap, ⟨l0, l1, l2, l3⟩, lf⟩ := h.at
  obtain ⟨c0, c1, c2, c3⟩ := box4N h.box
  have HK := Lib.hid (fun u => kidsOf7_any gb (d * 3) u)
  have wd : wrap64 ((d : Int) + 1) = ((d + 1 : Nat) : Int) := by unfold wrap64; omega
  have e1 : ((d : Int) == (n : Int)) = false := by rw [beq_eq_false_iff_ne]; omega
  have i0 : (0 : Int) ≤ (d : Int) := by omega
  have i1 : (d : Int) < (n : Int) := by omega
  have HEN := Lib.hid (fun u : World => enterNil_any (.pointer (some ⟨cb, 0, none⟩)) none 0 u)
  have HALL : Hid (∀ u2, OnlyS [] u u2 → (u2.cell? ⟨lb, off + 3, none⟩ = some (.int .i64 (d : Int)) ∧ u2.frozen? ⟨lb, off + 3, none⟩ = false) ∧
      (∀ u3, u3 = u2.setCell ⟨lb, off + 3, none⟩ (.int .i64 ((d + 1 : Nat) : Int)) → (u3.cell? ⟨gb, d * 3 + 2, none⟩ = some (.slice none 0 0) ∧ u3.frozen? ⟨gb, d * 3 + 2, none⟩ = false) ∧ CopyS (u3.setCell ⟨gb, d * 3 + 2, none⟩ (.slice none 0 0)) cb lb mb gb (.slice (some ⟨lb, off, none⟩) 1 cap) src n (d + 1) ∧ RowF gb n n fl (u3.setCell ⟨gb, d * 3 + 2, none⟩ (.slice none 0 0)) ∧ OnlyS [lb, gb] u (u3.setCell ⟨gb, d * 3 + 2, none⟩ (.slice none 0 0)))) := Lib.hid (fun u2 ho => by
    have h2 := h.other ho (by simp) (by simp) (by simp)
    have hr0 := hr.kept (ho.block _ hr.lt (by simp))
    obtain ⟨o9, c9, e9, -, hat9, hf9⟩ := h2.at
    obtain ⟨rfl, rfl⟩ : off = o9 ∧ cap = c9 := by simpa using e9
    refine ⟨⟨hat9.2.2.2, hf9⟩, fun u3 hu3 => ?_⟩
    obtain ⟨hc2, ho2⟩ := h2.done rfl hcl hml (d + 1)
    rw [← hu3] at hc2 ho2
    have hr2 := hr0.kept (ho2.block _ hr0.lt (by simp; exact hgl))
    obtain ⟨n2, hr3, ho3⟩ := hr2.nil hn hd
    have hc3 := hc2.other ho3 (by simp; exact fun e => hgc e.symm) (by simp; exact fun e => hgl e.symm) (by simp; exact fun e => hgm e.symm)
    exact ⟨⟨n2, (hr2.cells (d * 3 + 2) (by omega)).2⟩, hc3, hr3, (ho.mono (by simp)).trans ((ho2.mono (T := [lb, gb]) (by simp)).trans (ho3.mono (by simp)))⟩)
  have r1 : wrap64 (1 - 1) = 0 := by unfold wrap64; omega
  unfold kidsV at c1
  clear hn h hr hcl hml hgl hgc hgm
  go_enter Try.func35, Try.ntmps35
  go_upto_region 2 with fail
  go_quiet (fail)
  go_upto_region 5 with fail
  have HO2 : Hid (OnlyS [] u (u.drewN nq).drew) := Lib.hid ((OnlyS.refl [] u).drewN nq).drew
  have hQ : ∀ u2, OnlyS [] u u2 → (u2.cell? ⟨cb, 1, none⟩ = some (.func (.func 30) #[] #[]) ∧ u2.cell? ⟨lb, off + 2, none⟩ = some (.slice (some ⟨gb, 0, none⟩) n n) ∧ u2.cell? ⟨lb, off + 3, none⟩ = some (.int .i64 (d : Int))) := fun u2 ho => by
    have h1 := World.block_lt_of_cell? u _ c1
    have h2 := World.block_lt_of_cell? u _ l2
    exact ⟨(ho.cell (p := ⟨cb, 1, none⟩) h1 (by simp)).trans c1, (ho.cell (p := ⟨lb, off + 2, none⟩) h2 (by simp)).trans l2, (ho.cell (p := ⟨lb, off + 3, none⟩) h2 (by simp)).trans l3⟩
  have HQ := Lib.hid hQ
  clear hQ
  go_region_held3 (fun w' => w'.cell? ⟨cb, 1, none⟩ = some (.func (.func 30) #[] #[]) ∧ w'.cell? ⟨lb, off + 2, none⟩ = some (.slice (some ⟨gb, 0, none⟩) n n) ∧ w'.cell? ⟨lb, off + 3, none⟩ = some (.int .i64 (d : Int)))
    (first | with_reducible exact HQ.out _ HO2.out | go_keep)
    (first | (go_at_call 30; refine (HK.out _).mono ?_; rintro e u5 ⟨rfl, rfl⟩))
  all_goals
    have HO3 : Hid (OnlyS [] u (u.drewN (nq + 1))) := Lib.hid ((OnlyS.refl [] u).drewN (nq + 1))
    clear l0 l1 l2 l3 lf c0 c1 c2 c3 HO2
    generalize u.drewN (nq + 1) = u2 at *
    obtain ⟨⟨l3, lf⟩, hnext⟩ := HALL.out u2 HO3.out
    obtain ⟨u3, hu3⟩ : ∃ x, u2.setCell ⟨lb, off + 3, none⟩ (.int .i64 ((d : Int) + 1)) = x := ⟨_, rfl⟩
    obtain ⟨⟨n2, g2⟩, hfin⟩ := hnext u3 (by rw [← hu3, show ((d + 1 : Nat) : Int) = (d : Int) + 1 by omega])
    have HF := Lib.hid hfin
    clear hnext hfin
    go_upto_region 7 with fail
    try rw [hu3]
    clear hu3 l3 lf
    go_wp2_with fail
    refine (HEN.out _).mono ?_
    rintro e u4 ⟨rfl, rfl⟩
    go_wp2_with fail
    refine bodyPost_end (results_none rfl _ _ _) rfl ?_
    exact ⟨rfl, HF.out⟩
set_option maxRecDepth 100000 in
set_option maxHeartbeats 2000000 in
/-- All elements have their lists. -/
theorem stepEnd_any {fl : List (Int × ByteArray)} {n cb lb mb gb : Nat} {lv : Value} {src : Addr} {u : World} (h : CopyS u cb lb mb gb lv src n n) (hr : RowF gb n n fl u) (hcm : mb ≠ cb) (hgc : gb ≠ cb) (hgm : gb ≠ mb) :
    Calls Try.prog 35 #[.pointer (some ⟨cb, 0, none⟩)] u fun e w' => e = .returned (.tuple #[]) ∧ (∃ a c, w'.cell? ⟨cb, 2, none⟩ = some (.slice a 0 c)) ∧ RowF gb n n fl w' ∧ OnlyS [cb, mb] u w' := by
  obtain ⟨off, cap, rfl, hcap, ⟨l0, l1, l2, l3⟩, lf⟩ := h.at
  obtain ⟨c0, c1, c2, c3⟩ := box4N h.box
  have e1 : ((n : Int) == (n : Int)) = true := beq_self_eq_true _
  have r1 : wrap64 (1 - 1) = 0 := by unfold wrap64; omega
  have HALL : Hid (∀ u2, OnlyS [] u u2 → (u2.cell? ⟨cb, 3, none⟩ = some (.map (some mb)) ∧ u2.cell? ⟨lb, off, none⟩ = some (.pointer (some src)) ∧ u2.cell? ⟨lb, off + 1, none⟩ = some (.int .i64 (n : Int))) ∧
      ∃ w3, (∀ ty, (Builtin.delete_ #[78, 88] ty #[.map (some mb), .agg #[.pointer (some src), .int .i64 (n : Int)]]).run Try.prog u2 = .ok (.tuple #[]) w3) ∧ w3.heap[cb]? = some (.cells #[sameV, kidsV, .slice (some ⟨lb, off, none⟩) 1 cap, .map (some mb)] 81) ∧
        ∀ v, (w3.setCell ⟨cb, 2, none⟩ v).cell? ⟨cb, 2, none⟩ = some v ∧ RowF gb n n fl (w3.setCell ⟨cb, 2, none⟩ v) ∧ OnlyS [cb, mb] u (w3.setCell ⟨cb, 2, none⟩ v)) := Lib.hid (fun u2 ho => by
    have h2 := h.other ho (by simp) (by simp) (by simp)
    have hr0 := hr.kept (ho.block _ hr.lt (by simp))
    obtain ⟨o9, c9, e9, -, hat9, hf9⟩ := h2.at
    obtain ⟨rfl, rfl⟩ : off = o9 ∧ cap = c9 := by simpa using e9
    obtain ⟨b, cl, hm⟩ := h2.map
    obtain ⟨w3, hd, hm3, ho3⟩ := ndel src n _ b hm
    have hc3 := (ho3.block cb (lt_of_block h2.box) (by simp; exact fun e => hcm e.symm)).trans h2.box
    refine ⟨⟨(box4N h2.box).2.2.2, hat9.1, hat9.2.1⟩, w3, hd, hc3, fun v => ?_⟩
    have ho4 := (OnlyS.refl [cb] w3).setCell (g := cb) (i := 2) (by simp) v
    have hr3 := hr0.kept (ho3.block _ hr0.lt (by simp; exact hgm))
    refine ⟨?_, hr3.kept (ho4.block _ hr3.lt (by simp; exact hgc)), (ho.mono (by simp)).trans ((ho3.mono (T := [cb, mb]) (by simp)).trans (ho4.mono (by simp)))⟩
    rw [cell_of_row _ cb _ _ 81 (0, 0) (heap_setCell_same w3 cb 2 _ 81 v hc3)]
    simp)
  clear h hr hcm hgc hgm
  go_enter Try.func35, Try.ntmps35
  go_upto_region 2 with fail
  go_quiet (fail)
  have HO2 : Hid (OnlyS [] u (u.drewN nq)) := Lib.hid ((OnlyS.refl [] u).drewN nq)
  clear l0 l1 l2 l3 lf c0 c1 c2 c3
  generalize u.drewN nq = u1 at *
  obtain ⟨⟨x3, x0, x1⟩, -⟩ := HALL.out u1 HO2.out
  obtain ⟨-, w3, hd, hc3, hfin⟩ := HALL.out u1.drew HO2.out.drew
  have HF := Lib.hid hfin
  have HC3 := Lib.hid hc3
  clear hfin
  go_upto_region 3 with fail
  go_region
  all_goals
    obtain ⟨y0, y1, y2, y3⟩ := box4N HC3.out
    have f2 : w3.frozen? ⟨cb, 2, none⟩ = false := frozen_of_row _ _ _ _ _ HC3.out
    go_wp2_with fail
    refine bodyPost_ret (results_none rfl _ _ _) rfl ?_
    exact ⟨rfl, ⟨_, _, (HF.out _).1⟩, (HF.out _).2⟩
end Go.Proofs.Ytmdhioifdnaajaa
