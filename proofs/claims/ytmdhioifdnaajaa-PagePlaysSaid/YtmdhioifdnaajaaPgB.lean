/-
  Rows of places: where the place of a cookie is; some places left out; a connection's row set.
-/
import Derived.Test.YtmdhioifdnaajaaPgA
import Derived.Test.YtmdhioifdnaajaaPgAsk
import Derived.Deep.RegionHeld3
import Derived.Shelf.Abstract
import Derived.Deep.CutRange
import Derived.Deep.RegionLaw
set_option linter.unusedVariables false
set_option linter.unusedSimpArgs false
namespace Go.Proofs.Ytmdhioifdnaajaa
open Go.RowKit Go.Shelf

/-- A place's cookie. -/
def ck (n : Nat) : ByteArray := strOfNums (Mt.be n 8)
def plV (p : Mt.Pl) : Value := .agg (plC p).toArray
theorem beq_decG (x y : ByteArray) : (x.toList == y.toList) = decide (x = y) := by
  rw [Bool.eq_iff_iff]
  simp only [beq_iff_eq, decide_eq_true_eq, ByteArray.toList_eq]
  constructor
  · intro h; apply ByteArray.ext; exact Array.ext' h
  · rintro rfl; rfl
theorem box4G {w : World} {b : Nat} {v0 v1 v2 v3 : Value} {T : TypeId} (h : w.heap[b]? = some (.cells #[v0, v1, v2, v3] T)) :
    w.cell? ⟨b, 0, none⟩ = some v0 ∧ w.cell? ⟨b, 1, none⟩ = some v1 ∧ w.cell? ⟨b, 2, none⟩ = some v2 ∧ w.cell? ⟨b, 3, none⟩ = some v3 :=
  ⟨by rw [cell_of_row _ _ _ _ _ _ h]; rfl, by rw [cell_of_row _ _ _ _ _ _ h]; rfl, by rw [cell_of_row _ _ _ _ _ _ h]; rfl, by rw [cell_of_row _ _ _ _ _ _ h]; rfl⟩
set_option maxRecDepth 100000 in
set_option maxHeartbeats 1000000 in
/-- Whether a place is that of a cookie. -/
theorem idxF26_any (p : Mt.Pl) (s : ByteArray) (cb : Nat) {w : World} (hc : w.cell? ⟨cb, 0, none⟩ = some (.string s)) :
    Calls Try.prog 15 #[plV p, .pointer (some ⟨cb, 0, none⟩)] w fun e w' => e = .returned (.bool (decide (ck p.num = s))) ∧ Below w.heap.size w w' := by
  have HP : Hid (∀ u : World, Calls Try.prog 16 #[.int .u64 (p.num : Int), .int .i64 8] u fun e w' => e = .returned (.string (strOfNums (Mt.be p.num 8))) ∧ Below u.heap.size u w') := Lib.hid (fun (u : World) => put_yes p.num 8 u (by omega) (by omega))
  obtain ⟨num, key, ver, at'⟩ := p
  unfold plV plC
  unfold ck
  simp only at HP ⊢
  have hcl := World.block_lt_of_cell? w _ hc
  obtain ⟨w1, hw1⟩ : ∃ u, w.alloc (.cells #[.int .u64 (num : Int), .string key, .int .i64 ver, .int .i64 at'] 49) = u := ⟨_, rfl⟩
  have hA : Below w.heap.size w w1 := by rw [← hw1]; exact (Below.refl _ w).alloc (Nat.le_refl _) _
  have hx : w1.heap[w.heap.size]? = some (.cells #[.int .u64 (num : Int), .string key, .int .i64 ver, .int .i64 at'] 49) := by rw [← hw1]; exact heap_alloc_new w _
  have HQ : Hid (∀ u, Below w1.heap.size w1 u → Below w.heap.size w u ∧ u.cell? ⟨w.heap.size, 0, none⟩ = some (.int .u64 (num : Int)) ∧ u.cell? ⟨cb, 0, none⟩ = some (.string s)) := Lib.hid (fun u hu => ⟨hA.trans (hu.mono hA.size), (box4G ((hu.block _ (lt_of_block hx)).trans hx)).1, ((hA.trans (hu.mono hA.size)).cell hcl).trans hc⟩)
  have HS : Hid (Below w1.heap.size w1 w1.drew) := Lib.hid (Below.refl _ w1).drew
  have HW := Lib.hid hw1
  generalize strOfNums (Mt.be num 8) = CK at *
  obtain ⟨-, p0, p1⟩ := HQ.out w1 (Below.refl _ _)
  clear hc hcl hA hx hw1
  go_enter Try.func15, Try.ntmps15
  go_upto_region 1 with fail
  rw [HW.out]
  go_region_held3 (fun w' => w'.cell? ⟨w.heap.size, 0, none⟩ = some (.int .u64 (num : Int)) ∧ w'.cell? ⟨cb, 0, none⟩ = some (.string s)) (first | with_reducible exact (HQ.out _ HS.out).2 | go_keep)
    (first | (go_at_call 16; refine (HP.out _).mono ?_; rintro e w2 ⟨rfl, hb⟩; have HS := Lib.hid (HS.out.trans (hb.mono HS.out.size))))
  all_goals
    go_wp2_with fail
    all_goals (go_ret; exact ⟨Mt.ret_bool (by rw [← beq_decG]), (HQ.out _ HS.out).1⟩)
/-- The four cells of a place in a row. -/
theorem IsRw.place {w : World} {g off cap : Nat} {l : List Mt.Pl} (h : IsRw 49 4 w g (.slice (some ⟨g, off, none⟩) l.length cap) l.length (plsC l)) (j : Nat) (hj : j < l.length) :
    w.cell? ⟨g, off + j * 4, none⟩ = some (.int .u64 (l[j].num : Int)) ∧ w.cell? ⟨g, off + j * 4 + 1, none⟩ = some (.string l[j].key) ∧ w.cell? ⟨g, off + j * 4 + 2, none⟩ = some (.int .i64 l[j].ver) ∧ w.cell? ⟨g, off + j * 4 + 3, none⟩ = some (.int .i64 l[j].at') := by
  obtain ⟨hl, cur, hg, _, _, hat⟩ := h.row
  have hp := plsC_get l j hj
  have hh : ∀ d v, d < 4 → (plsC l)[j * 4 + d]? = some v → w.cell? ⟨g, off + (j * 4 + d), none⟩ = some v := fun d v hd hv => by
    have hlt : j * 4 + d < (plsC l).length := by rw [hl]; omega
    rw [cell_of_row w g _ cur 49 (0, 0) hg, hat _ hlt]
    rw [List.getElem?_eq_getElem hlt] at hv
    exact hv
  exact ⟨hh 0 _ (by decide) hp.1, hh 1 _ (by decide) hp.2.1, hh 2 _ (by decide) hp.2.2.1, hh 3 _ (by decide) hp.2.2.2⟩
set_option maxRecDepth 100000 in
set_option maxHeartbeats 1000000 in
/-- Which place of a row is the first that a function tells. -/
theorem indexFuncPG_any {w : World} {g : Nat} {v : Value} {l : List Mt.Pl} (hv : IsRw 49 4 w g v l.length (plsC l)) (hn : l.length ≤ 1000) (f : Nat) (lb : Array Value) (p : Mt.Pl → Bool) (eg : ∀ args w, (callFunc f args).run Try.prog w = .ok (.enter f args) w)
    (hp : ∀ u, Below w.heap.size w u → ∀ x ∈ l, Calls Try.prog f (#[plV x] ++ lb) u fun e w' => e = .returned (.bool (p x)) ∧ Below u.heap.size u w') :
    Calls Try.prog 14 #[v, .func (.func f) #[] lb] w fun e w' => e = .returned (.int .i64 (Mt.idxP p l)) ∧ Below w.heap.size w w' := by
  have HP := Lib.hid hp
  have HV := Lib.hid hv
  obtain ⟨a, cap, rfl⟩ := hv.form
  have HA : Hid (0 < l.length → ∃ off, a = some ⟨g, off, none⟩) := Lib.hid (fun h0 => by
    obtain ⟨off, cap2, _, e, _⟩ := HV.out.hasBlock h0
    injection e with e1
    exact ⟨off, e1⟩)
  have hd := Mt.idxP_spec p l
  obtain ⟨k, hk⟩ : ∃ k, Mt.idxP p l = k := ⟨_, rfl⟩
  rw [hk] at hd ⊢
  have HD := Lib.hid hd
  clear hk hd hp hv
  obtain ⟨m0, hm0⟩ : ∃ m, l.length = m := ⟨_, rfl⟩
  have HL := Lib.hid hm0
  have HV2 := Lib.hid HV.out
  rw [hm0] at hn HV2 HA ⊢
  clear hm0
  go_enter Try.func14, Try.ntmps14
  go_wp2_with fail
  go_loopw [8] (fun i wr => ∃ m : Nat, m ≤ m0 ∧ i = .int .i64 m ∧ Hid (∀ j (hj : j < l.length), j < m → p l[j] = false) ∧ Hid (Below w.heap.size w wr))
    (fun i _ => m0 - (intOf i).toNat)
  case atStart => exact ⟨0, Nat.zero_le _, rfl, Lib.hid fun j _ h => absurd h (Nat.not_lt_zero _), Lib.hid (Below.refl _ _)⟩
  case round =>
    obtain ⟨m, hm, rfl, HO, HB⟩ := hrel
    by_cases hlt : m < m0
    · have hmr : m < l.length := by rw [HL.out]; exact hlt
      obtain ⟨off, rfl⟩ := HA.out (by omega)
      have hpl := IsRw.place (w := wr) (g := g) (off := off) (cap := cap) (l := l) (by rw [HL.out]; exact HV2.out.below HB.out) m hmr
      obtain ⟨t, ht⟩ : ∃ t, l[m] = t := ⟨_, rfl⟩
      rw [ht] at hpl
      obtain ⟨x0, x1, x2, x3⟩ := hpl
      have HC := Lib.hid (HP.out wr HB.out t (by rw [← ht]; exact List.getElem_mem _))
      obtain ⟨q, hq⟩ : ∃ q, p t = q := ⟨_, rfl⟩
      rw [hq] at HC
      have HQ : Hid (p l[m] = q) := Lib.hid (by rw [ht]; exact hq)
      have HH : Hid (q = true → k = m) := Lib.hid (by
        intro h
        rcases HD.out with ⟨_, h2⟩ | ⟨m2, rfl, hm2, h3, h4⟩
        · have := h2 m hmr; rw [HQ.out, h] at this; cases this
        · by_cases e : m2 = m
          · rw [e]
          · rcases Nat.lt_or_ge m2 m with h5 | h5
            · have := HO.out m2 hm2 h5; rw [h3] at this; cases this
            · have := h4 m (by omega); rw [HQ.out, h] at this; cases this)
      have HO2 : Hid (q = false → ∀ j (hj : j < l.length), j < m + 1 → p l[j] = false) := Lib.hid (by
        intro h j hj hlt2
        by_cases e : j = m
        · subst e; rw [HQ.out, h]
        · exact HO.out j hj (by omega))
      have d1 : decide ((m : Int) < (m0 : Int)) = true := decide_eq_true (by omega)
      have d2 : decide (m < m0) = true := decide_eq_true hlt
      have j0 : (0 : Int) ≤ (m : Int) := by omega
      have j1 : (m : Int) < (m0 : Int) := by omega
      unfold plV plC at HC
      obtain ⟨tn, tk, tv, ta⟩ := t
      simp only at HC x0 x1 x2 x3
      clear hq HQ ht hmr
      go_wp2_with fail
      refine (HC.out).mono ?_
      rintro e w2 ⟨rfl, hb⟩
      have HB2 := Lib.hid (HB.out.trans (hb.mono HB.out.size))
      clear hb x0 x1 x2 x3 HC
      cases q
      · go_wp2_with fail
        go_roundw
        case rel => exact ⟨m + 1, by omega, by go_num, Lib.hid (HO2.out (by first | rfl | trivial)), HB2⟩
        case measure => simp [intOf]; omega
      · have hk : k = m := HH.out (by first | rfl | trivial)
        subst hk
        go_wp2_with fail
        all_goals (go_ret; exact ⟨rfl, HB2.out⟩)
    · obtain rfl : m = m0 := by omega
      have d1 : decide ((m : Int) < (m : Int)) = false := decide_eq_false (by omega)
      have d2 : decide (m < m) = false := decide_eq_false (by omega)
      have HQ : Hid (k = -1) := Lib.hid (by
        rcases HD.out with ⟨h, _⟩ | ⟨m2, rfl, hm2, h3, h4⟩
        · exact h
        · have := HO.out m2 hm2 (by rw [← HL.out]; exact hm2); rw [h3] at this; cases this)
      go_wp2_with fail
      all_goals (go_ret; exact ⟨by rw [HQ.out]; rfl, HB.out⟩)
end Go.Proofs.Ytmdhioifdnaajaa
