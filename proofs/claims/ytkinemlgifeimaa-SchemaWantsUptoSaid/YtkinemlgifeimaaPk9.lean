/-
  Some texts of one proof, one behind the other.
-/
import Derived.Test.YtkinemlgifeimaaPk5
import Derived.Test.YtkinemlgifeimaaPk8
set_option linter.unusedVariables false
set_option linter.unusedSimpArgs false

/-
  Which types there aren't; what is wrong with a type.
-/
namespace Go.Proofs.Ytkinemlgifeimaa
open Go.RowKit

namespace Mt
def lacks (s : Sc) (n : List UInt8) : Bool := decide (tyAt s n < 0)
def chkTy (s : Sc) (i : Nat) : Int :=
  if typL (tyI s i).name = false then 20 else if tyAt s (tyI s i).name < i then 21 else if (tyI s i).syn < 1 ∨ 8 < (tyI s i).syn then 23 else 0
def wrong (b : Bool) : Int := if b then 2 else 0
def chkSup (s : Sc) (i : Nat) : Int :=
  if (clI s i).sup ≠ [] ∧ supAt s i < 0 then 22 else if supAt s i < 0 then wrong (decide ((clI s i).kind ≠ 0)) else wrong (decide ((clI s (supAt s i)).kind ≠ 0) && decide ((clI s (supAt s i)).kind ≠ (clI s i).kind))
def chkCl (s : Sc) (i : Nat) : Int :=
  if typL (clI s i).name = false then 20 else if clAt s (clI s i).name < i then 21 else if (clI s i).kind ≠ 0 ∧ (clI s i).kind ≠ 1 ∧ (clI s i).kind ≠ 2 then 23
  else if chkSup s i ≠ 0 then chkSup s i else if (clI s i).must.any (lacks s) || (clI s i).may.any (lacks s) then 22 else 0
def rootN : List UInt8 := [111, 98, 106, 101, 99, 116, 67, 108, 97, 115, 115]
def chkRoot (s : Sc) : Int := if tyAt s rootN < 0 then 22 else wrong (decide ((tyI s (tyAt s rootN)).syn ≠ 3) || (tyI s (tyAt s rootN)).single)
def firstE (f : Nat → Int) : Nat → Nat → Int
  | 0, _ => 0
  | k + 1, i => if f i ≠ 0 then f i else firstE f k (i + 1)
def chk (s : Sc) : Int := if 128 < s.types.length ∨ 128 < s.classes.length then 9
  else if firstE (chkTy s) s.types.length 0 ≠ 0 then firstE (chkTy s) s.types.length 0
  else if firstE (chkCl s) s.classes.length 0 ≠ 0 then firstE (chkCl s) s.classes.length 0
  else chkRoot s
end Mt
theorem wrong_any (b : Bool) (w : World) : Calls Try.prog 51 #[.bool b] w fun e w' => e = .returned (.int .i64 (Mt.wrong b)) ∧ w = w' := by
  cases b <;> (go_enter Try.func51, Try.ntmps51; go_wp2; go_ret; exact ⟨rfl, rfl⟩)
set_option maxRecDepth 100000 in
theorem lacks_any {tv cv : Value} {s : Mt.Sc} (n : List UInt8) (hn : n.length ≤ 140737488351232) {w : World} (h : IsSc w tv cv s) :
    Calls Try.prog 50 #[.agg #[tv, cv], .string (Mt.str n)] w fun e w' => e = .returned (.bool (Mt.lacks s n)) ∧ Below w.heap.size w w' := by
  have HK := Lib.hid (fun (u : World) (hb : Below w.heap.size w u) => typeAt_any n hn (h.below hb))
  have hl : Mt.lacks s n = decide (Mt.tyAt s n < 0) := rfl
  rw [hl]
  have HA := Lib.hid ((Below.refl w.heap.size w).alloc (Nat.le_refl _) (.cells #[tv, cv] 59))
  have hrow := heap_alloc_new w (.cells #[tv, cv] 59)
  have p0 : (w.alloc (.cells #[tv, cv] 59)).cell? ⟨w.heap.size, 0, none⟩ = some tv := by rw [cell_of_row _ _ _ _ _ _ hrow]; rfl
  have p1 : (w.alloc (.cells #[tv, cv] 59)).cell? ⟨w.heap.size, 1, none⟩ = some cv := by rw [cell_of_row _ _ _ _ _ _ hrow]; rfl
  generalize Mt.tyAt s n = R at *
  generalize Mt.str n = N at *
  obtain ⟨d, hd⟩ : ∃ d, decide (R < 0) = d := ⟨_, rfl⟩
  rw [hd]
  clear hl hn h hrow
  go_enter Try.func50, Try.ntmps50
  go_wp2_with fail
  refine (HK.out _ HA.out).mono ?_
  rintro e w2 ⟨rfl, hb⟩
  have HB2 := Lib.hid (HA.out.trans (hb.mono HA.out.size))
  clear hb
  go_wp2_with fail
  go_ret
  exact ⟨rfl, HB2.out⟩
set_option maxRecDepth 100000 in
set_option maxHeartbeats 1000000 in
theorem indexLacks_any {tv cv : Value} {s : Mt.Sc} {w : World} {v : Value} {r : List (List UInt8)} (hv : IsNms w v r) (h : IsSc w tv cv s) (hr : ∀ a ∈ r, a.length ≤ 140737488351232) (hn : r.length ≤ 8796093022208) :
    Calls Try.prog 64 #[v, .func (.func 50) #[.agg #[tv, cv]] #[]] w fun e w' => e = .returned (.int .i64 (Mt.atL (Mt.lacks s) r)) ∧ Below w.heap.size w w' := by
  obtain ⟨a, cap, rfl, hcap, hcell⟩ := hv
  have HC := Lib.hid (fun (u : World) (hb : Below w.heap.size w u) => h.below hb)
  have hd := Mt.atL_spec (Mt.lacks s) r
  obtain ⟨k, hk⟩ : ∃ k, Mt.atL (Mt.lacks s) r = k := ⟨_, rfl⟩
  rw [hk] at hd ⊢
  have HD := Lib.hid hd
  have HR := Lib.hid hr
  clear hk hd hr h
  obtain ⟨m0, hm0⟩ : ∃ m, r.length = m := ⟨_, rfl⟩
  have HL := Lib.hid hm0
  rw [hm0] at hn ⊢
  clear hm0 hcap
  go_enter Try.func64, Try.ntmps64
  go_wp2_with fail
  go_loopw [8] (fun i wr => ∃ m : Nat, m ≤ m0 ∧ i = .int .i64 m ∧ Hid (∀ j (hj : j < r.length), j < m → Mt.lacks s r[j] = false) ∧ Hid (Below w.heap.size w wr))
    (fun i _ => m0 - (intOf i).toNat)
  case atStart => exact ⟨0, Nat.zero_le _, rfl, Lib.hid fun j _ h => absurd h (Nat.not_lt_zero _), Lib.hid (Below.refl _ _)⟩
  case round =>
    obtain ⟨m, hm, rfl, HO, HB⟩ := hrel
    by_cases hlt : m < m0
    · have hmr : m < r.length := by rw [HL.out]; exact hlt
      obtain ⟨b, off, e0, hbl, h0⟩ := hcell.out m hmr
      obtain ⟨t, ht⟩ : ∃ t, r[m] = t := ⟨_, rfl⟩
      rw [ht] at h0
      subst e0
      have x0 := (HB.out.cell (p := ⟨b, off + m, none⟩) hbl).trans h0
      have htl : t.length ≤ 140737488351232 := by have := HR.out _ (List.getElem_mem hmr); rw [ht] at this; omega
      have HP := Lib.hid (lacks_any t htl (HC.out wr HB.out))
      obtain ⟨q, hq⟩ : ∃ q, Mt.lacks s t = q := ⟨_, rfl⟩
      rw [hq] at HP
      have HQ : Hid (Mt.lacks s r[m] = q) := Lib.hid (by rw [ht]; exact hq)
      have HH : Hid (q = true → k = m) := Lib.hid (by
        intro h
        rcases HD.out with ⟨_, h2⟩ | ⟨m2, rfl, hm2, h3, h4⟩
        · have := h2 m hmr; rw [HQ.out, h] at this; cases this
        · by_cases e : m2 = m
          · rw [e]
          · rcases Nat.lt_or_ge m2 m with h5 | h5
            · have := HO.out m2 hm2 h5; rw [h3] at this; cases this
            · have := h4 m (by omega); rw [HQ.out, h] at this; cases this)
      have HO2 : Hid (q = false → ∀ j (hj : j < r.length), j < m + 1 → Mt.lacks s r[j] = false) := Lib.hid (by
        intro h j hj hlt2
        by_cases e : j = m
        · subst e; rw [HQ.out, h]
        · exact HO.out j hj (by omega))
      have d1 : decide ((m : Int) < (m0 : Int)) = true := decide_eq_true (by omega)
      have d2 : decide (m < m0) = true := decide_eq_true hlt
      clear hq hbl h0 HQ ht hmr htl
      generalize Mt.str t = T at *
      go_wp2_with fail
      refine (HP.out).mono ?_
      rintro e w2 ⟨rfl, hb⟩
      have HB2 := Lib.hid (HB.out.trans (hb.mono HB.out.size))
      clear hb
      cases q
      · go_wp2_with fail
        go_roundw
        case rel => exact ⟨m + 1, by omega, by go_num, Lib.hid (HO2.out (by first | rfl | trivial)), HB2⟩
        case measure => simp [intOf]; omega
      · go_wp2_with fail
        all_goals (go_ret; exact ⟨Mt.ret_int (HH.out (by first | rfl | trivial)).symm, HB2.out⟩)
    · have HH : Hid (k = -1) := Lib.hid (by
        rcases HD.out with ⟨h1, _⟩ | ⟨m2, rfl, hm2, h3, h4⟩
        · exact h1
        · have := HO.out m2 hm2 (by have := HL.out; omega); rw [h3] at this; cases this)
      have d1 : decide ((m : Int) < (m0 : Int)) = false := decide_eq_false (by omega)
      have d2 : decide (m < m0) = false := decide_eq_false hlt
      go_wp2_with fail
      go_ret
      exact ⟨Mt.ret_int HH.out.symm, HB.out⟩
theorem containsLacks_any {tv cv : Value} {s : Mt.Sc} {w : World} {v : Value} {r : List (List UInt8)} (hv : IsNms w v r) (h : IsSc w tv cv s) (hr : ∀ a ∈ r, a.length ≤ 140737488351232) (hn : r.length ≤ 8796093022208) :
    Calls Try.prog 49 #[v, .func (.func 50) #[.agg #[tv, cv]] #[]] w fun e w' => e = .returned (.bool (r.any (Mt.lacks s))) ∧ Below w.heap.size w w' := by
  have H := Lib.hid (indexLacks_any hv h hr hn)
  obtain ⟨a, cap, rfl, _⟩ := hv
  rw [← Mt.atL_any]
  generalize Mt.atL (Mt.lacks s) r = k at *
  obtain ⟨q, hq⟩ : ∃ q, decide (0 ≤ k) = q := ⟨_, rfl⟩
  rw [hq]
  clear h hr hn
  go_enter Try.func49, Try.ntmps49
  go_wp2_with fail
  refine (H.out).mono ?_
  rintro e w' ⟨rfl, hb⟩
  have HB := Lib.hid hb
  clear hb
  go_wp2_with fail
  go_ret
  exact ⟨rfl, HB.out⟩
end Go.Proofs.Ytkinemlgifeimaa

/-
  What is wrong with a type, with a class's Sup.
-/
namespace Go.Proofs.Ytkinemlgifeimaa
open Go.RowKit

set_option maxRecDepth 100000 in
set_option maxHeartbeats 1000000 in
theorem checkType_any {tv cv : Value} {s : Mt.Sc} (i : Nat) (hi : i < s.types.length) {w : World} (h : IsSc w tv cv s) :
    Calls Try.prog 30 #[.agg #[tv, cv], .int .i64 (i : Int)] w fun e w' => e = .returned (.int .i64 (Mt.chkTy s i)) ∧ Below w.heap.size w w' := by
  have hg := Mt.tyI_get hi
  obtain ⟨t, ht⟩ : ∃ t, s.types[i] = t := ⟨_, rfl⟩
  rw [ht] at hg
  have htm : t.name.length ≤ 140737488351232 := by rw [← ht]; exact h.tnm _ (List.getElem_mem hi)
  have HK := Lib.hid (fun (u : World) (hb : Below w.heap.size w u) => typeAt_any t.name (by omega) (h.below hb))
  have HT := Lib.hid (fun u => type_any (Mt.str t.name) u)
  rw [Mt.str_data] at HT
  have hlen := h.tlen
  obtain ⟨R, hR⟩ : ∃ R, Mt.chkTy s i = R := ⟨_, rfl⟩
  have hR2 := hR
  unfold Mt.chkTy at hR
  rw [hg] at hR
  have HR := Lib.hid hR
  rw [hR2]
  obtain ⟨a, cap, hv, hcap, hcell⟩ := h.types
  obtain ⟨b, off, e0, hbl, h0, h1, h2, h3⟩ := hcell.out i hi
  rw [ht] at h0 h1 h2 h3
  subst e0
  subst hv
  obtain ⟨n, hn⟩ : ∃ n, s.types.length = n := ⟨_, rfl⟩
  rw [hn] at hcap hlen HK ⊢
  have hlt : i < n := by omega
  obtain ⟨w1, hw1⟩ : ∃ w1, w.alloc (.cells #[.slice (some ⟨b, off, none⟩) n cap, cv] 59) = w1 := ⟨_, rfl⟩
  have HA1 : Hid (Below w.heap.size w w1) := Lib.hid (by rw [← hw1]; exact (Below.refl _ w).alloc (Nat.le_refl _) _)
  have hs1 : w1.heap.size = w.heap.size + 1 := by rw [← hw1]; simp
  have hx1 : w1.heap[w.heap.size]? = some (.cells #[.slice (some ⟨b, off, none⟩) n cap, cv] 59) := by rw [← hw1]; exact heap_alloc_new w _
  obtain ⟨N, hN⟩ : ∃ N, Mt.str t.name = N := ⟨_, rfl⟩
  rw [hN] at h0 HK HT
  obtain ⟨w2, hw2⟩ : ∃ w2, w1.alloc (.cells #[.string N, .int .i64 t.syn, .bool t.single, .bool t.oper] 35) = w2 := ⟨_, rfl⟩
  have hA2 : Below w1.heap.size w1 w2 := by rw [← hw2]; exact (Below.refl _ w1).alloc (Nat.le_refl _) _
  have HA2 := Lib.hid (HA1.out.trans (hA2.mono (by omega)))
  have hs2 : w2.heap.size = w.heap.size + 2 := by rw [← hw2]; simp [hs1]
  have hx2 : w2.heap[w1.heap.size]? = some (.cells #[.string N, .int .i64 t.syn, .bool t.single, .bool t.oper] 35) := by rw [← hw2]; exact heap_alloc_new w1 _
  have hx1' := (hA2.block w.heap.size (by omega)).trans hx1
  rw [hs1] at hx2
  have HP : Hid (∀ u, Below w2.heap.size w2 u → u.cell? ⟨w.heap.size, 0, none⟩ = some (.slice (some ⟨b, off, none⟩) n cap) ∧ u.cell? ⟨w.heap.size, 1, none⟩ = some cv ∧ u.cell? ⟨w.heap.size + 1, 0, none⟩ = some (.string N) ∧ u.cell? ⟨w.heap.size + 1, 1, none⟩ = some (.int .i64 t.syn)) := Lib.hid (fun u hu => by
    have r1 := (hu.block w.heap.size (by omega)).trans hx1'
    have r2 := (hu.block (w.heap.size + 1) (by omega)).trans hx2
    exact ⟨by rw [cell_of_row _ _ _ _ _ _ r1]; rfl, by rw [cell_of_row _ _ _ _ _ _ r1]; rfl, by rw [cell_of_row _ _ _ _ _ _ r2]; rfl, by rw [cell_of_row _ _ _ _ _ _ r2]; rfl⟩)
  have y0 := (HA1.out.cell (p := ⟨b, off + i * 4, none⟩) hbl).trans h0
  have y1 := (HA1.out.cell (p := ⟨b, off + i * 4 + 1, none⟩) hbl).trans h1
  have y2 := (HA1.out.cell (p := ⟨b, off + i * 4 + 2, none⟩) hbl).trans h2
  have y3 := (HA1.out.cell (p := ⟨b, off + i * 4 + 3, none⟩) hbl).trans h3
  have p0 : w1.cell? ⟨w.heap.size, 0, none⟩ = some (.slice (some ⟨b, off, none⟩) n cap) := by rw [cell_of_row _ _ _ _ _ _ hx1]; rfl
  have i0 : (0 : Int) ≤ (i : Int) := by omega
  have i1 : (i : Int) < (n : Int) := by omega
  obtain ⟨TL, hTL⟩ : ∃ z, Mt.typL t.name = z := ⟨_, rfl⟩
  rw [hTL] at HT HR
  obtain ⟨k, hk⟩ : ∃ k, Mt.tyAt s t.name = k := ⟨_, rfl⟩
  rw [hk] at HK HR
  clear h hi hg ht htm hR hR2 hcell h0 h1 h2 h3 hbl hn hN hTL hk hA2 hx1 hx2 hx1'
  go_enter Try.func30, Try.ntmps30
  go_upto_region 2 with fail
  obtain ⟨q0, q1, q2, q3⟩ := HP.out w2 (Below.refl _ _)
  go_wp2_with fail
  refine (HT.out _).mono ?_
  rintro e w3 ⟨rfl, hb⟩
  have HB3 := Lib.hid (HA2.out.trans (hb.mono HA2.out.size))
  have HW3 := Lib.hid hb
  clear hb q0 q1 q2 q3 HT
  obtain ⟨q0, q1, q2, q3⟩ := HP.out w3 HW3.out
  cases TL with
  | false =>
    have HE : Hid (R = 20) := Lib.hid (by rw [← HR.out, if_pos rfl])
    go_wp2_with fail
    all_goals (go_ret; exact ⟨Mt.ret_int HE.out.symm, HB3.out⟩)
  | true =>
    have HR2 := Lib.hid HR.out
    rw [if_neg (by decide)] at HR2
    clear HR
    go_wp2_with fail
    refine (HK.out _ HB3.out).mono ?_
    rintro e w4 ⟨rfl, hb⟩
    have HB4 := Lib.hid (HB3.out.trans (hb.mono HB3.out.size))
    have HW4 := Lib.hid (HW3.out.trans (hb.mono HW3.out.size))
    clear hb q0 q1 q2 q3 HK
    obtain ⟨q0, q1, q2, q3⟩ := HP.out w4 HW4.out
    by_cases hc : k < (i : Int)
    · have HE : Hid (R = 21) := Lib.hid (by rw [← HR2.out, if_pos hc])
      have d1 : decide (k < (i : Int)) = true := decide_eq_true hc
      go_wp2_with fail
      all_goals (go_ret; exact ⟨Mt.ret_int HE.out.symm, HB4.out⟩)
    · have d1 : decide (k < (i : Int)) = false := decide_eq_false hc
      generalize t.syn = sy at *
      by_cases hs1 : sy < 1
      · have HE : Hid (R = 23) := Lib.hid (by rw [← HR2.out, if_neg hc, if_pos (.inl hs1)])
        have d2 : decide (sy < 1) = true := decide_eq_true hs1
        clear hc hs1
        go_wp2_with fail
        all_goals (go_ret; exact ⟨Mt.ret_int HE.out.symm, HB4.out⟩)
      · have d2 : decide (sy < 1) = false := decide_eq_false hs1
        by_cases hs8 : 8 < sy
        · have HE : Hid (R = 23) := Lib.hid (by rw [← HR2.out, if_neg hc, if_pos (.inr hs8)])
          have d3 : decide (8 < sy) = true := decide_eq_true hs8
          clear hc hs1 hs8
          go_wp2_with fail
          all_goals (go_ret; exact ⟨Mt.ret_int HE.out.symm, HB4.out⟩)
        · have HE : Hid (R = 0) := Lib.hid (by rw [← HR2.out, if_neg hc, if_neg (fun h => h.elim hs1 hs8)])
          have d3 : decide (8 < sy) = false := decide_eq_false hs8
          clear hc hs1 hs8
          go_wp2_with fail
          all_goals (go_ret; exact ⟨Mt.ret_int HE.out.symm, HB4.out⟩)
end Go.Proofs.Ytkinemlgifeimaa

/-
  What is wrong with a class's Sup.
-/
namespace Go.Proofs.Ytkinemlgifeimaa
open Go.RowKit

/-- A class at a place, behind a book in a box of its own. -/
theorem book_class {tv cv : Value} {s : Mt.Sc} (i : Nat) (hi : i < s.classes.length) {w : World} (h : IsSc w tv cv s) :
    ∃ (b off cap : Nat) (m y : Value) (w1 : World), cv = .slice (some ⟨b, off, none⟩) s.classes.length cap ∧ s.classes.length ≤ cap ∧ b < w.heap.size ∧ w.alloc (.cells #[tv, cv] 59) = w1 ∧ w1.heap.size = w.heap.size + 1 ∧ Hid (Below w.heap.size w w1) ∧
      Hid (∀ u, Below (w.heap.size + 1) w1 u → u.cell? ⟨w.heap.size, 0, none⟩ = some tv ∧ u.cell? ⟨w.heap.size, 1, none⟩ = some cv ∧ u.cell? ⟨b, off + i * 5, none⟩ = some (.string (Mt.str s.classes[i].name)) ∧ u.cell? ⟨b, off + i * 5 + 1, none⟩ = some (.string (Mt.str s.classes[i].sup)) ∧ u.cell? ⟨b, off + i * 5 + 2, none⟩ = some (.int .i64 s.classes[i].kind) ∧ u.cell? ⟨b, off + i * 5 + 3, none⟩ = some m ∧ u.cell? ⟨b, off + i * 5 + 4, none⟩ = some y) ∧
      Hid (∀ u, Below w.heap.size w u → IsNms u m s.classes[i].must ∧ IsNms u y s.classes[i].may) := by
  obtain ⟨a, cap, hv, hcap, hcell⟩ := h.classes
  obtain ⟨b, off, m, y, e0, hbl, h0, h1, h2, h3, h4, h5, h6⟩ := hcell.out i hi
  subst e0
  refine ⟨b, off, cap, m, y, _, hv, hcap, hbl, rfl, by simp, Lib.hid ((Below.refl _ w).alloc (Nat.le_refl _) _), Lib.hid fun u hu => ?_, Lib.hid fun u hu => ⟨h5.below hu, h6.below hu⟩⟩
  have hrow := (hu.block w.heap.size (by omega)).trans (heap_alloc_new w (.cells #[tv, cv] 59))
  have hb : Below w.heap.size w u := ((Below.refl _ w).alloc (Nat.le_refl _) _).trans (hu.mono (Nat.le_succ _))
  exact ⟨by rw [cell_of_row _ _ _ _ _ _ hrow]; rfl, by rw [cell_of_row _ _ _ _ _ _ hrow]; rfl, (hb.cell (p := ⟨b, _, none⟩) hbl).trans h0, (hb.cell (p := ⟨b, _, none⟩) hbl).trans h1, (hb.cell (p := ⟨b, _, none⟩) hbl).trans h2, (hb.cell (p := ⟨b, _, none⟩) hbl).trans h3, (hb.cell (p := ⟨b, _, none⟩) hbl).trans h4⟩
/-- Only the kind of one at another place. -/
theorem kind_at {tv cv : Value} {s : Mt.Sc} (j : Nat) (hj : j < s.classes.length) {w : World} (h : IsSc w tv cv s) {b off cap : Nat} (hv : cv = .slice (some ⟨b, off, none⟩) s.classes.length cap) :
    Hid (∀ u, Below w.heap.size w u → u.cell? ⟨b, off + j * 5 + 2, none⟩ = some (.int .i64 s.classes[j].kind)) := by
  obtain ⟨a, cap', hv', hcap, hcell⟩ := h.classes
  obtain ⟨b', off', m, y, e0, hbl, h0, h1, h2, h3, h4, h5, h6⟩ := hcell.out j hj
  subst e0
  rw [hv'] at hv
  cases hv
  exact Lib.hid fun u hu => (hu.cell (p := ⟨b, _, none⟩) hbl).trans h2
theorem box5_of {w : World} {b : Nat} {v0 v1 v2 v3 v4 : Value} {T : TypeId} (h : w.heap[b]? = some (.cells #[v0, v1, v2, v3, v4] T)) :
    (w.cell? ⟨b, 0, none⟩ = some v0 ∧ w.cell? ⟨b, 1, none⟩ = some v1 ∧ w.cell? ⟨b, 2, none⟩ = some v2 ∧ w.cell? ⟨b, 3, none⟩ = some v3 ∧ w.cell? ⟨b, 4, none⟩ = some v4) ∧
    (w.frozen? ⟨b, 0, none⟩ = false ∧ w.frozen? ⟨b, 1, none⟩ = false ∧ w.frozen? ⟨b, 2, none⟩ = false ∧ w.frozen? ⟨b, 3, none⟩ = false ∧ w.frozen? ⟨b, 4, none⟩ = false) :=
  ⟨⟨by rw [cell_of_row _ _ _ _ _ _ h]; rfl, by rw [cell_of_row _ _ _ _ _ _ h]; rfl, by rw [cell_of_row _ _ _ _ _ _ h]; rfl, by rw [cell_of_row _ _ _ _ _ _ h]; rfl, by rw [cell_of_row _ _ _ _ _ _ h]; rfl⟩,
   frozen_of_row _ _ _ _ _ h, frozen_of_row _ _ _ _ _ h, frozen_of_row _ _ _ _ _ h, frozen_of_row _ _ _ _ _ h, frozen_of_row _ _ _ _ _ h⟩
theorem keep5 {w : World} {B : Nat} {a : Addr} {v : Value} (hne : B ≠ a.block) (h : w.cell? a = some v) (u0 u1 u2 u3 u4 : Value) :
    (((((w.setCell ⟨B, 0, none⟩ u0).setCell ⟨B, 1, none⟩ u1).setCell ⟨B, 2, none⟩ u2).setCell ⟨B, 3, none⟩ u3).setCell ⟨B, 4, none⟩ u4).cell? a = some v := by
  rw [World.cell?_setCell_far _ _ _ _ hne, World.cell?_setCell_far _ _ _ _ hne, World.cell?_setCell_far _ _ _ _ hne, World.cell?_setCell_far _ _ _ _ hne, World.cell?_setCell_far _ _ _ _ hne]
  exact h
theorem set5_of {w : World} {b : Nat} {v0 v1 v2 v3 v4 : Value} {T : TypeId} (h : w.heap[b]? = some (.cells #[v0, v1, v2, v3, v4] T)) (u0 u1 u2 u3 u4 : Value) :
    (((((w.setCell ⟨b, 0, none⟩ u0).setCell ⟨b, 1, none⟩ u1).setCell ⟨b, 2, none⟩ u2).setCell ⟨b, 3, none⟩ u3).setCell ⟨b, 4, none⟩ u4).heap[b]? = some (.cells #[u0, u1, u2, u3, u4] T) := by
  have h0 := heap_setCell_same w b 0 _ T u0 h
  have h1 := heap_setCell_same _ b 1 _ T u1 h0
  have h2 := heap_setCell_same _ b 2 _ T u2 h1
  have h3 := heap_setCell_same _ b 3 _ T u3 h2
  exact heap_setCell_same _ b 4 _ T u4 h3
set_option maxRecDepth 100000 in
set_option maxHeartbeats 1000000 in
theorem checkSup_any {tv cv : Value} {s : Mt.Sc} (i : Nat) (hi : i < s.classes.length) {w : World} (h : IsSc w tv cv s) :
    Calls Try.prog 48 #[.agg #[tv, cv], .int .i64 (i : Int)] w fun e w' => e = .returned (.int .i64 (Mt.chkSup s i)) ∧ Below w.heap.size w w' := by
  have hg := Mt.clI_get hi
  have HK := Lib.hid (fun (u : World) (hb : Below w.heap.size w u) => supAt_any i hi (h.below hb))
  have hlen := h.clen
  have hsr := Mt.supAt_range (s := s) i
  have hst := Mt.supAt_range (s := s) i
  obtain ⟨b, off, cap, m, y, w1, hv, hcap, hbl, hw1, hs1, HA1, HP, HM⟩ := book_class i hi h
  obtain ⟨am, cm, hm, -⟩ := (HM.out w (Below.refl _ _)).1
  obtain ⟨ay, cy, hy, -⟩ := (HM.out w (Below.refl _ _)).2
  generalize s.classes[i].must.length = lm at hm
  generalize s.classes[i].may.length = ly at hy
  subst hm hy
  have HKD := Lib.hid (fun (j : Nat) (hj : j < s.classes.length) => kind_at j hj h hv)
  have HCG := Lib.hid (fun (j : Nat) (hj : j < s.classes.length) => Mt.clI_get hj)
  obtain ⟨c, hc⟩ : ∃ c, s.classes[i] = c := ⟨_, rfl⟩
  rw [hc] at HP hg
  obtain ⟨R, hR⟩ : ∃ R, Mt.chkSup s i = R := ⟨_, rfl⟩
  have hR2 := hR
  unfold Mt.chkSup at hR
  rw [hg] at hR
  rw [hR2]
  obtain ⟨k, hk⟩ : ∃ k, Mt.supAt s i = k := ⟨_, rfl⟩
  rw [hk] at hR HK hsr
  have HR := Lib.hid hR
  subst hv
  obtain ⟨n, hn⟩ : ∃ n, s.classes.length = n := ⟨_, rfl⟩
  have HN := Lib.hid hn
  rw [hn] at hcap hlen HK HP hw1 ⊢
  have hlt : i < n := by omega
  have i0 : (0 : Int) ≤ (i : Int) := by omega
  have i1 : (i : Int) < (n : Int) := by omega
  obtain ⟨N, hN⟩ : ∃ N, Mt.str c.name = N := ⟨_, rfl⟩
  obtain ⟨U, hU⟩ : ∃ U, Mt.str c.sup = U := ⟨_, rfl⟩
  rw [hN, hU] at HP
  have HU : Hid (U.toList.isEmpty = decide (c.sup = [])) := Lib.hid (by
    rw [← hU, ByteArray.toList_eq, Mt.str_data, Bool.eq_iff_iff, List.isEmpty_iff, decide_eq_true_eq])
  clear h hi hg hc hR hR2 hn hN hU hk hst HM
  go_enter Try.func48, Try.ntmps48
  go_upto_region 1 with fail
  obtain ⟨p0, p1, x0, x1, x2, x3, x4⟩ := HP.out w1 (Below.refl _ _)
  have HW0 := Lib.hid ((Below.refl (w.heap.size + 1) w1).drew)
  have HA1d := Lib.hid HA1.out.drew
  have HA1z : Hid (Below w.heap.size w (w1.alloc (.cells #[.string ⟨#[]⟩, .string ⟨#[]⟩, .int .i64 0, .slice none 0 0, .slice none 0 0] 31)).drew) := Lib.hid (HA1.out.alloc (by omega) _).drew
  have HZ : Hid ((w1.alloc (.cells #[.string ⟨#[]⟩, .string ⟨#[]⟩, .int .i64 0, .slice none 0 0, .slice none 0 0] 31)).drew.heap[w.heap.size + 1]? = some (.cells #[.string ⟨#[]⟩, .string ⟨#[]⟩, .int .i64 0, .slice none 0 0, .slice none 0 0] 31)) := Lib.hid (by
    have := heap_alloc_new w1 (.cells #[.string ⟨#[]⟩, .string ⟨#[]⟩, .int .i64 0, .slice none 0 0, .slice none 0 0] 31)
    rw [hs1] at this; exact this)
  have HW0z : Hid (Below (w.heap.size + 1) w1 (w1.alloc (.cells #[.string ⟨#[]⟩, .string ⟨#[]⟩, .int .i64 0, .slice none 0 0, .slice none 0 0] 31)).drew) := Lib.hid ((Below.refl _ w1).alloc (by omega) _).drew
  have hn0 : w.heap.size + 1 ≠ w.heap.size := by omega
  have hnb : w.heap.size + 1 ≠ b := by omega
  go_region_held3 (fun w' => w'.cell? ⟨w.heap.size, 0, none⟩ = some tv ∧ w'.cell? ⟨w.heap.size, 1, none⟩ = some (.slice (some ⟨b, off, none⟩) n cap) ∧ w'.cell? ⟨b, off + i * 5, none⟩ = some (.string N) ∧ w'.cell? ⟨b, off + i * 5 + 1, none⟩ = some (.string U) ∧ w'.cell? ⟨b, off + i * 5 + 2, none⟩ = some (.int .i64 c.kind) ∧ w'.cell? ⟨b, off + i * 5 + 3, none⟩ = some (.slice am lm cm) ∧ w'.cell? ⟨b, off + i * 5 + 4, none⟩ = some (.slice ay ly cy))
    (first
      | with_reducible exact ⟨p0, p1, x0, x1, x2, x3, x4⟩
      | with_reducible exact ⟨keep5 hn0 p0 _ _ _ _ _, keep5 hn0 p1 _ _ _ _ _, keep5 hnb x0 _ _ _ _ _, keep5 hnb x1 _ _ _ _ _, keep5 hnb x2 _ _ _ _ _, keep5 hnb x3 _ _ _ _ _, keep5 hnb x4 _ _ _ _ _⟩
      | go_keep)
    (first
      | (go_at_call 58; refine (HK.out _ HA1z.out).mono ?_; rintro e w2 ⟨rfl, hb⟩; have HB2 := Lib.hid (HA1z.out.trans (hb.mono HA1z.out.size)); have HW2 := Lib.hid (HW0z.out.trans (hb.mono (by simp [hs1]))); have hk := (hb.block (w.heap.size + 1) (by simp [hs1])).trans HZ.out; obtain ⟨⟨z0, z1, z2, z3, z4⟩, f0, f1, f2, f3, f4⟩ := box5_of hk; clear p0 p1 x0 x1 x2 x3 x4; obtain ⟨p0, p1, x0, x1, x2, x3, x4⟩ := HP.out _ HW2.out; clear hb)
      | (go_at_call 58; refine (HK.out _ HA1d.out).mono ?_; rintro e w2 ⟨rfl, hb⟩; have HB2 := Lib.hid (HA1d.out.trans (hb.mono HA1d.out.size)); have HW2 := Lib.hid (HW0.out.trans (hb.mono (by simp [hs1]))); clear p0 p1 x0 x1 x2 x3 x4; obtain ⟨p0, p1, x0, x1, x2, x3, x4⟩ := HP.out _ HW2.out; clear hb))
  all_goals
    first
      | (have hk3 := set5_of hk (.string N) (.string U) (.int .i64 c.kind) (.slice am lm cm) (.slice ay ly cy)
         have hb3 := ((((HB2.out.setCell (p := ⟨w.heap.size + 1, 0, none⟩) (Nat.le_succ _) (.string N)).setCell (p := ⟨w.heap.size + 1, 1, none⟩) (Nat.le_succ _) (.string U)).setCell (p := ⟨w.heap.size + 1, 2, none⟩) (Nat.le_succ _) (.int .i64 c.kind)).setCell (p := ⟨w.heap.size + 1, 3, none⟩) (Nat.le_succ _) (.slice am lm cm)).setCell (p := ⟨w.heap.size + 1, 4, none⟩) (Nat.le_succ _) (.slice ay ly cy)
         have hw3 := ((((HW2.out.setCell (p := ⟨w.heap.size + 1, 0, none⟩) (Nat.le_refl _) (.string N)).setCell (p := ⟨w.heap.size + 1, 1, none⟩) (Nat.le_refl _) (.string U)).setCell (p := ⟨w.heap.size + 1, 2, none⟩) (Nat.le_refl _) (.int .i64 c.kind)).setCell (p := ⟨w.heap.size + 1, 3, none⟩) (Nat.le_refl _) (.slice am lm cm)).setCell (p := ⟨w.heap.size + 1, 4, none⟩) (Nat.le_refl _) (.slice ay ly cy)
         clear p0 p1 x0 x1 x2 x3 x4 z0 z1 z2 z3 z4 f0 f1 f2 f3 f4 hk HB2 HW2
         generalize (((((w2.setCell ⟨w.heap.size + 1, 0, none⟩ (.string N)).setCell ⟨w.heap.size + 1, 1, none⟩ (.string U)).setCell ⟨w.heap.size + 1, 2, none⟩ (.int .i64 c.kind)).setCell ⟨w.heap.size + 1, 3, none⟩ (.slice am lm cm)).setCell ⟨w.heap.size + 1, 4, none⟩ (.slice ay ly cy)) = w3 at *
         obtain ⟨⟨z0, z1, z2, -, -⟩, -⟩ := box5_of hk3
         have HB3 := Lib.hid hb3
         obtain ⟨p0, p1, -, -, -, -, -⟩ := HP.out _ hw3
         clear hb3 hw3 hk3)
      | (have hk3 := heap_alloc_new w2 (.cells #[.string N, .string U, .int .i64 c.kind, .slice am lm cm, .slice ay ly cy] 31)
         have hb3 := HB2.out.alloc HB2.out.size (.cells #[.string N, .string U, .int .i64 c.kind, .slice am lm cm, .slice ay ly cy] 31)
         have hw3 := HW2.out.alloc (show w.heap.size + 1 ≤ w2.heap.size by have := HW2.out.size; omega) (.cells #[.string N, .string U, .int .i64 c.kind, .slice am lm cm, .slice ay ly cy] 31)
         clear p0 p1 x0 x1 x2 x3 x4 HB2 HW2
         generalize (w2.alloc (.cells #[.string N, .string U, .int .i64 c.kind, .slice am lm cm, .slice ay ly cy] 31)) = w3 at *
         obtain ⟨⟨z0, z1, z2, -, -⟩, -⟩ := box5_of hk3
         have HB3 := Lib.hid hb3
         obtain ⟨p0, p1, -, -, -, -, -⟩ := HP.out _ hw3
         clear hb3 hw3 hk3)
    have k0 : (k < 0) = (k = -1) := by rw [eq_iff_iff]; omega
    have HWR := Lib.hid (fun b u => wrong_any b u)
    by_cases hk : k < 0
    · have d1 : decide (k < 0) = true := decide_eq_true hk
      by_cases hsu : c.sup = []
      · have he : U.toList.isEmpty = true := by rw [HU.out, decide_eq_true hsu]
        obtain ⟨q, hq⟩ : ∃ q, decide (c.kind ≠ 0) = q := ⟨_, rfl⟩
        have hq2 : (c.kind != 0) = q := by rw [← hq, Bool.eq_iff_iff]; simp
        have HE : Hid (R = Mt.wrong q) := Lib.hid (by rw [← HR.out, if_neg (fun h => h.1 hsu), if_pos hk, hq])
        clear k0
        go_wp2_with fail
        refine (HWR.out _ _).mono ?_
        rintro e w4 ⟨rfl, rfl⟩
        go_wp2_with fail
        all_goals (go_ret; exact ⟨Mt.ret_int HE.out.symm, HB3.out⟩)
      · have he : U.toList.isEmpty = false := by rw [HU.out, decide_eq_false hsu]
        have HE : Hid (R = 22) := Lib.hid (by rw [← HR.out, if_pos ⟨hsu, hk⟩])
        clear k0
        go_wp2_with fail
        all_goals (go_ret; exact ⟨Mt.ret_int HE.out.symm, HB3.out⟩)
    · have d1 : decide (k < 0) = false := decide_eq_false hk
      obtain ⟨j, rfl⟩ := Int.eq_ofNat_of_zero_le (show 0 ≤ k by omega)
      have hjn : j < n := by omega
      have hj1 : (j : Int) < (n : Int) := by omega
      have hj0 : (0 : Int) ≤ (j : Int) := by omega
      have xk := ((HKD.out j (by rw [HN.out]; exact hjn)).out w3 HB3.out)
      have HCJ := Lib.hid (HCG.out j (by rw [HN.out]; exact hjn))
      obtain ⟨cj, hcj⟩ : ∃ cj, s.classes[j]'(by rw [HN.out]; exact hjn) = cj := ⟨_, rfl⟩
      rw [hcj] at xk HCJ
      have HE0 : Hid (R = Mt.wrong (decide (cj.kind ≠ 0) && decide (cj.kind ≠ c.kind))) := Lib.hid (by rw [← HR.out, if_neg (fun h => hk h.2), if_neg hk, HCJ.out])
      generalize cj.kind = kj at *
      generalize c.kind = kc at *
      clear k0 hcj HCJ
      by_cases e0 : kj = 0
      · subst e0
        have HE : Hid (R = Mt.wrong false) := Lib.hid (by rw [HE0.out]; rfl)
        cases hue : U.toList.isEmpty
        all_goals
          go_wp2_with fail
          refine (HWR.out _ _).mono ?_
          rintro e w4 ⟨rfl, rfl⟩
          go_wp2_with fail
          all_goals (go_ret; exact ⟨Mt.ret_int HE.out.symm, HB3.out⟩)
      · have e0b : (kj == 0) = false := beq_eq_false_iff_ne.2 e0
        have e0c : (kj != 0) = true := by simpa using e0
        obtain ⟨q, hq⟩ : ∃ q, decide (kj ≠ kc) = q := ⟨_, rfl⟩
        have hq2 : (kj != kc) = q := by rw [← hq, Bool.eq_iff_iff]; simp
        have HE : Hid (R = Mt.wrong q) := Lib.hid (by rw [HE0.out, decide_eq_true e0, Bool.true_and, hq])
        clear HE0 hq
        cases hue : U.toList.isEmpty
        all_goals
          go_wp2_with fail
          refine (HWR.out _ _).mono ?_
          rintro e w4 ⟨rfl, rfl⟩
          go_wp2_with fail
          all_goals (go_ret; exact ⟨Mt.ret_int HE.out.symm, HB3.out⟩)
end Go.Proofs.Ytkinemlgifeimaa
