/-
  Some texts of one proof, one behind the other.
-/
import Derived.Deep.RegionHeld3
import Derived.Deep.Cut
import Derived.Test.YtngdbhncafnliaaGreatPk6
import Derived.Test.YtngdbhncafnliaaGreatPk7
import Derived.Test.YtngdbhncafnliaaGreatPk15
set_option linter.unusedVariables false
set_option linter.unusedSimpArgs false

/-
  What slices.ContainsFunc comes to at an RDN, with the two tests that the program hands to it; what dn.has comes to.
-/
namespace Go.Proofs.YtngdbhncafnliaaGreat
open Go.RowKit

/-- Types and values in a slice, wherever they lie. -/
def IsAvs (w : World) (v : Value) (r : List Mt.Av) : Prop :=
  ∃ a cap, v = .slice a r.length cap ∧ r.length ≤ 9223372036854775807 ∧ r.length ≤ cap ∧ (r = [] ∨ ∃ b off, a = some ⟨b, off, none⟩ ∧ b < w.heap.size ∧ ∀ j (hj : j < r.length), w.cell? ⟨b, off + j * 2, none⟩ = some (.string (Mt.str r[j].1)) ∧ w.cell? ⟨b, off + j * 2 + 1, none⟩ = some (.string (Mt.str r[j].2)))
theorem IsAvs.below {w u : World} {v : Value} {r : List Mt.Av} (h : IsAvs w v r) (hb : Below w.heap.size w u) : IsAvs u v r := by
  obtain ⟨a, cap, h1, h2, h2', h3⟩ := h
  refine ⟨a, cap, h1, h2, h2', ?_⟩
  rcases h3 with h3 | ⟨b, off, h4, h5, h6⟩
  · exact .inl h3
  · exact .inr ⟨b, off, h4, Nat.lt_of_lt_of_le h5 hb.size, fun j hj => ⟨by rw [hb.cell (p := ⟨b, off + j * 2, none⟩) h5]; exact (h6 j hj).1, by rw [hb.cell (p := ⟨b, off + j * 2 + 1, none⟩) h5]; exact (h6 j hj).2⟩⟩
theorem IsAvs.take {w : World} {v : Value} {r : List Mt.Av} (h : IsAvs w v r) (i : Nat) (hi : i ≤ r.length) : ∃ a cap, v = .slice a r.length cap ∧ IsAvs w (.slice a i cap) (r.take i) := by
  obtain ⟨a, cap, h1, h2, h2', h3⟩ := h
  have hl : (r.take i).length = i := by simp; omega
  refine ⟨a, cap, h1, a, cap, by rw [hl], by omega, by omega, ?_⟩
  rcases h3 with h3 | ⟨b, off, h4, h5, h6⟩
  · exact .inl (by rw [h3]; simp)
  · exact .inr ⟨b, off, h4, h5, fun j hj => by
      have hj2 : j < r.length := by rw [hl] at hj; omega
      have e : (r.take i)[j] = r[j] := List.getElem_take
      rw [e]; exact h6 j hj2⟩
/-- One of them by value. -/
def avV (a : Mt.Av) : Value := .agg #[.string (Mt.str a.1), .string (Mt.str a.2)]
theorem Tryz.undAva : ∃ fs, Tryz.prog.underlying 87 = some (.struct fs) := ⟨_, Tryz.underlying87⟩
theorem Tryz.sizeAva : (Tryz.prog.info? 87).map (·.size) = some 2 := by kernel_rfl
theorem load_av {w : World} {b off : Nat} {a : Mt.Av} (h0 : w.cell? ⟨b, off, none⟩ = some (.string (Mt.str a.1))) (h1 : w.cell? ⟨b, off + 1, none⟩ = some (.string (Mt.str a.2))) :
    (loadVar 87 ⟨b, off, none⟩).run Tryz.prog w = .ok (avV a) w := by
  obtain ⟨fs, hfs⟩ := Tryz.undAva
  exact run_loadVar_cells w 87 ⟨b, off, none⟩ #[.string (Mt.str a.1), .string (Mt.str a.2)] (.struct fs) (fun j v hv => by
    match j, hv with
    | 0, hv => cases hv; rw [add_off]; exact h0
    | 1, hv => cases hv; rw [add_off]; exact h1
    | j + 2, hv => simp at hv) hfs rfl (by rw [Tryz.sizeAva]; rfl)

theorem box2_of {w : World} {b : Nat} {x y : Value} {T : TypeId} {fr : Nat × Nat} (h : w.heap[b]? = some (.cells #[x, y] T fr)) : w.cell? ⟨b, 0, none⟩ = some x ∧ w.cell? ⟨b, 1, none⟩ = some y := by
  simp [World.cell?, h]
theorem Mt.beq_dec (x y : ByteArray) : (x.toList == y.toList) = decide (x = y) := by
  rw [Bool.eq_iff_iff]
  simp only [beq_iff_eq, decide_eq_true_eq, ByteArray.toList_eq]
  constructor
  · intro h; apply ByteArray.ext; exact Array.ext' h
  · rintro rfl; rfl
set_option maxRecDepth 100000 in
theorem has1_any (a : Mt.Av) (B : Nat) (f : ByteArray) (w : World) (hc : w.cell? ⟨B, 0, none⟩ = some (.string f)) (ha : a.1.length ≤ 70368744177664) :
    Calls Tryz.prog 109 #[avV a, .pointer (some ⟨B, 0, none⟩)] w fun e w' => e = .returned (.bool (decide (Mt.str (Mt.foldL a.1) = f))) ∧ Below w.heap.size w w' := by
  have hB : B < w.heap.size := World.block_lt_of_cell? w ⟨B, 0, none⟩ hc
  have HF := Lib.hid (fun u => fold_any (Mt.str a.1) u (by rw [Mt.str_size]; omega))
  have HC := Lib.hid (fun (u : World) (hb : Below w.heap.size w u) => (hb.cell (p := ⟨B, 0, none⟩) hB).trans hc)
  clear ha hc
  have hb0 := (Below.refl w.heap.size w).alloc (Nat.le_refl _) (.cells #[.string (Mt.str a.1), .string (Mt.str a.2)] 87)
  have HA := Lib.hid hb0
  have p1 := HC.out _ hb0
  have p2 : (w.alloc (.cells #[.string (Mt.str a.1), .string (Mt.str a.2)] 87)).cell? ⟨w.heap.size, 0, none⟩ = some (.string (Mt.str a.1)) := (box2_of (heap_alloc_new w (.cells #[.string (Mt.str a.1), .string (Mt.str a.2)] 87))).1
  clear hb0
  unfold avV
  go_enter Tryz.func109, Tryz.ntmps109
  go_upto_region 1 with fail
  go_region_held3 (fun w' => w'.cell? ⟨B, 0, none⟩ = some (.string f) ∧ w'.cell? ⟨w.heap.size, 0, none⟩ = some (.string (Mt.str a.1)))
    (first
      | go_keep
      | exact ⟨q1, q2⟩)
    (first
      | (go_at_call 41; refine (HF.out _).mono ?_; rintro e w2 ⟨rfl, hb⟩; have HB := Lib.hid (HA.out.drew.trans (hb.mono (by simp))); have q1 := HC.out _ HB.out; have q2 := (hb.cell (p := ⟨w.heap.size, 0, none⟩) (by simp)).trans p2; clear hb))
  go_wp2_with fail
  go_ret
  exact ⟨Mt.ret_bool (by rw [← Mt.beq_dec]; rfl), HB.out⟩

set_option maxRecDepth 100000 in
theorem indexHas_any {w : World} {v : Value} {r : List Mt.Av} (hv : IsAvs w v r) (B : Nat) (f : ByteArray) (hc : w.cell? ⟨B, 0, none⟩ = some (.string f)) (hr : ∀ a ∈ r, a.1.length ≤ 70368744177664) :
    ∃ k : Int, decide (0 ≤ k) = r.any (fun a => decide (Mt.str (Mt.foldL a.1) = f)) ∧ Calls Tryz.prog 86 #[v, .func (.func 109) #[] #[.pointer (some ⟨B, 0, none⟩)]] w fun e w' => e = .returned (.int .i64 k) ∧ Below w.heap.size w w' := by
  obtain ⟨a, cap, rfl, hn, hcap, hcell⟩ := hv
  have HC := Lib.hid (fun (u : World) (hb : Below w.heap.size w u) => (hb.cell (p := ⟨B, 0, none⟩) (World.block_lt_of_cell? w ⟨B, 0, none⟩ hc)).trans hc)
  obtain ⟨k, hk, hd⟩ : ∃ k : Int, decide (0 ≤ k) = r.any (fun a => decide (Mt.str (Mt.foldL a.1) = f)) ∧ ((k = -1 ∧ ∀ j (hj : j < r.length), decide (Mt.str (Mt.foldL r[j].1) = f) = false) ∨ ∃ m : Nat, k = m ∧ ∃ hm : m < r.length, decide (Mt.str (Mt.foldL r[m].1) = f) = true ∧ ∀ j (hj : j < m), decide (Mt.str (Mt.foldL (r[j]'(by omega)).1) = f) = false) := by
    cases hf : r.findIdx? (fun a => decide (Mt.str (Mt.foldL a.1) = f)) with
    | none =>
      rw [List.findIdx?_eq_none_iff] at hf
      refine ⟨-1, ?_, .inl ⟨rfl, fun j hj => hf _ (List.getElem_mem hj)⟩⟩
      have : r.any (fun a => decide (Mt.str (Mt.foldL a.1) = f)) = false := by
        rw [List.any_eq_false]; intro x hx; have := hf x hx; simpa using this
      rw [this]; rfl
    | some m =>
      rw [List.findIdx?_eq_some_iff_getElem] at hf
      obtain ⟨hm, h1, h2⟩ := hf
      refine ⟨m, ?_, .inr ⟨m, rfl, hm, h1, fun j hj => by have := h2 j hj; simpa using this⟩⟩
      have : r.any (fun a => decide (Mt.str (Mt.foldL a.1) = f)) = true := by
        rw [List.any_eq_true]; exact ⟨_, List.getElem_mem hm, h1⟩
      rw [this]; simp
  refine ⟨k, hk, ?_⟩
  have HD := Lib.hid hd
  have HR := Lib.hid hr
  clear hk hc hd hr
  have HX : Hid (∀ j (hj : j < r.length), ∃ b off, a = some ⟨b, off, none⟩ ∧ ∀ u, Below w.heap.size w u → u.cell? ⟨b, off + j * 2, none⟩ = some (.string (Mt.str r[j].1)) ∧ u.cell? ⟨b, off + j * 2 + 1, none⟩ = some (.string (Mt.str r[j].2))) := by
    intro j hj
    rcases hcell with h | ⟨b, off, h1, h2, h3⟩
    · subst h; simp at hj
    · exact ⟨b, off, h1, fun u hu => ⟨(hu.cell (p := ⟨b, off + j * 2, none⟩) h2).trans (h3 j hj).1, (hu.cell (p := ⟨b, off + j * 2 + 1, none⟩) h2).trans (h3 j hj).2⟩⟩
  clear hcell
  go_enter Tryz.func86, Tryz.ntmps86
  go_wp2_with fail
  go_loopw [8] (fun i wr => ∃ m : Nat, m ≤ r.length ∧ i = .int .i64 m ∧ Hid (∀ j (hj : j < r.length), j < m → decide (Mt.str (Mt.foldL r[j].1) = f) = false) ∧ Hid (Below w.heap.size w wr))
    (fun i _ => r.length - (intOf i).toNat)
  case atStart => exact ⟨0, Nat.zero_le _, rfl, Lib.hid fun j _ h => absurd h (Nat.not_lt_zero _), Lib.hid (Below.refl _ _)⟩
  case round =>
    obtain ⟨m, hm, rfl, HO, HB⟩ := hrel
    by_cases hlt : m < r.length
    · obtain ⟨b, off, rfl, hload⟩ := HX.out m hlt
      obtain ⟨hl0, hl1⟩ := hload wr HB.out
      have HP := Lib.hid (has1_any r[m] B f wr (HC.out _ HB.out) (HR.out _ (List.getElem_mem hlt)))
      obtain ⟨q, hq⟩ : ∃ q, decide (Mt.str (Mt.foldL r[m].1) = f) = q := ⟨_, rfl⟩
      rw [hq] at HP
      have HQ := Lib.hid hq
      have HH : Hid (q = true → k = m) := Lib.hid (by
        intro h
        rcases HD.out with ⟨_, h2⟩ | ⟨m2, rfl, hm2, h3, h4⟩
        · have := h2 m hlt; rw [HQ.out, h] at this; cases this
        · by_cases e : m2 = m
          · rw [e]
          · rcases Nat.lt_or_ge m2 m with h5 | h5
            · have := HO.out m2 hm2 h5; rw [h3] at this; cases this
            · have := h4 m (by omega); rw [HQ.out, h] at this; cases this)
      have HO2 : Hid (q = false → ∀ j (hj : j < r.length), j < m + 1 → decide (Mt.str (Mt.foldL r[j].1) = f) = false) := Lib.hid (by
        intro h j hj hlt2
        by_cases e : j = m
        · subst e; rw [HQ.out, h]
        · exact HO.out j hj (by omega))
      clear hq hload
      go_wp2_with fail
      refine (HP.out).mono ?_
      rintro e w2 ⟨rfl, hb⟩
      have HB2 := Lib.hid (HB.out.trans (hb.mono HB.out.size))
      clear hb
      cases q
      · go_wp2_with fail
        go_roundw
        case rel => exact ⟨m + 1, by omega, by go_num, Lib.hid (HO2.out (by first | rfl | trivial)), HB2⟩
        case measure => simp [intOf]; omega
      · go_wp2_with fail
        go_ret
        exact ⟨Mt.ret_int (HH.out (by first | rfl | trivial)).symm, HB2.out⟩
    · have HH : Hid (k = -1) := Lib.hid (by
        rcases HD.out with ⟨h1, _⟩ | ⟨m2, rfl, hm2, h3, h4⟩
        · exact h1
        · have := HO.out m2 hm2 (by omega); rw [h3] at this; cases this)
      go_wp2_with fail
      go_ret
      exact ⟨Mt.ret_int HH.out.symm, HB.out⟩

theorem containsHas_any {w : World} {v : Value} {r : List Mt.Av} (hv : IsAvs w v r) (B : Nat) (f : ByteArray) (hc : w.cell? ⟨B, 0, none⟩ = some (.string f)) (hr : ∀ a ∈ r, a.1.length ≤ 70368744177664) :
    Calls Tryz.prog 71 #[v, .func (.func 109) #[] #[.pointer (some ⟨B, 0, none⟩)]] w fun e w' => e = .returned (.bool (r.any (fun a => decide (Mt.str (Mt.foldL a.1) = f)))) ∧ Below w.heap.size w w' := by
  obtain ⟨k, hk, hcall⟩ := indexHas_any hv B f hc hr
  obtain ⟨a, cap, rfl, _⟩ := hv
  have H := Lib.hid hcall
  rw [← hk]
  obtain ⟨q, hq⟩ : ∃ q, decide (0 ≤ k) = q := ⟨_, rfl⟩
  rw [hq]
  clear hcall hc hr hk
  go_enter Tryz.func71, Tryz.ntmps71
  go_wp2_with fail
  refine (H.out).mono ?_
  rintro e w' ⟨rfl, hb⟩
  have HB := Lib.hid hb
  clear hb
  go_wp2_with fail
  go_ret
  exact ⟨rfl, HB.out⟩

theorem has_any {w : World} {v : Value} {r : List Mt.Av} (hv : IsAvs w v r) (t : ByteArray) (ht : t.size ≤ 70368744177664) (hr : ∀ a ∈ r, a.1.length ≤ 70368744177664) :
    Calls Tryz.prog 85 #[v, .string t] w fun e w' => e = .returned (.bool (Mt.hasL r t.data.toList)) ∧ Below w.heap.size w w' := by
  have HF := Lib.hid (fold_any t w (by omega))
  have hl : ∀ x : List UInt8, decide (Mt.foldL x = Mt.foldL t.data.toList) = decide (Mt.str (Mt.foldL x) = Mt.str (t.data.toList.map Mt.sm)) := fun x => by
    rw [Bool.eq_iff_iff]; simp only [decide_eq_true_eq]
    exact ⟨fun h => by rw [h]; rfl, fun h => by rw [← Mt.str_data (Mt.foldL x), h]; rfl⟩
  have he : Mt.hasL r t.data.toList = r.any (fun a => decide (Mt.str (Mt.foldL a.1) = Mt.str (t.data.toList.map Mt.sm))) := by
    unfold Mt.hasL; congr 1; funext a; exact hl a.1
  rw [he]
  generalize Mt.str (t.data.toList.map Mt.sm) = f at *
  have HC := Lib.hid (fun (w' : World) (hb : Below w.heap.size w w') => containsHas_any (w := w'.alloc (.cells #[.string f] 9)) ((hv.below hb).below ((Below.refl _ _).alloc (Nat.le_refl _) _)) w'.heap.size f (by unfold World.cell?; rw [heap_alloc_new w' (.cells #[.string f] 9)]; rfl) hr)
  obtain ⟨a, cap, rfl, _⟩ := hv
  clear hl he hr ht
  go_enter Tryz.func85, Tryz.ntmps85
  go_wp2_with fail
  refine (HF.out).mono ?_
  rintro e w' ⟨rfl, hb⟩
  have HB := Lib.hid hb
  have HC2 := Lib.hid (HC.out w' hb)
  clear hb
  go_wp2_with fail
  refine (HC2.out).mono ?_
  rintro e w2 ⟨rfl, hb⟩
  have HB2 := Lib.hid ((HB.out.alloc HB.out.size (.cells #[.string f] 9)).trans (hb.mono (by have := HB.out.size; simp; omega)))
  clear hb
  go_wp2_with fail
  go_ret
  exact ⟨rfl, HB2.out⟩
end Go.Proofs.YtngdbhncafnliaaGreat
