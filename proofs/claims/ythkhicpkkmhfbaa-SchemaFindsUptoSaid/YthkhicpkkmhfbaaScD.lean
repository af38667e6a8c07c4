/-
  Which types there aren't; what is wrong with a type.
-/
import Derived.Test.YthkhicpkkmhfbaaScC
import Derived.Test.YthkhicpkkmhfbaaDnA
namespace Go.Proofs.Ythkhicpkkmhfbaa
open Go.RowKit

namespace Mt
def lacks (s : Sc) (n : List UInt8) : Bool := decide (tyAt s n < 0)
def chkTy (s : Sc) (i : Nat) : Int :=
  if typL (tyI s i).name = false then 20 else if tyAt s (tyI s i).name < i then 21 else if (tyI s i).syn < 1 ∨ 8 < (tyI s i).syn then 23 else 0
def wrong (b : Bool) : Int := if b then 2 else 0
def chkSup (s : Sc) (i : Nat) : Int :=
  if (clI s i).sup ≠ [] ∧ supAt s i < 0 then 22 else if supAt s i < 0 then wrong (decide ((clI s i).kind ≠ 0)) else wrong (decide ((clI s (supAt s i)).kind ≠ 0) && decide ((clI s (supAt s i)).kind ≠ (clI s i).kind))
def chkCl (s : Sc) (i : Nat) : Int :=
  if typL (clI s i).name = false then 20 else if clAt s (clI s i).name < i then 21 else if (clI s i).kind ≠ 0 ∧ (clI s i).kind ≠ 1 ∧ (clI s i).kind ≠ 2 then 23
  else if chkSup s i ≠ 0 then chkSup s i else if (clI s i).must.any (lacks s) || (clI s i).may.any (lacks s) then 22 else 0
def rootN : List UInt8 := [111, 98, 106, 101, 99, 116, 67, 108, 97, 115, 115]
def chkRoot (s : Sc) : Int := if tyAt s rootN < 0 then 22 else wrong (decide ((tyI s (tyAt s rootN)).syn ≠ 3) || (tyI s (tyAt s rootN)).single)
def firstE (f : Nat → Int) : Nat → Nat → Int
  | 0, _ => 0
  | k + 1, i => if f i ≠ 0 then f i else firstE f k (i + 1)
def chk (s : Sc) : Int := if 128 < s.types.length ∨ 128 < s.classes.length then 9
  else if firstE (chkTy s) s.types.length 0 ≠ 0 then firstE (chkTy s) s.types.length 0
  else if firstE (chkCl s) s.classes.length 0 ≠ 0 then firstE (chkCl s) s.classes.length 0
  else chkRoot s
end Mt
theorem wrong_any (b : Bool) (w : World) : Calls Try.prog 51 #[.bool b] w fun e w' => e = .returned (.int .i64 (Mt.wrong b)) ∧ w = w' := by
  cases b <;> (go_enter Try.func51, Try.ntmps51; go_wp2; go_ret; exact ⟨rfl, rfl⟩)
set_option maxRecDepth 100000 in
theorem lacks_any {tv cv : Value} {s : Mt.Sc} (n : List UInt8) (hn : n.length ≤ 140737488351232) {w : World} (h : IsSc w tv cv s) :
    Calls Try.prog 50 #[.agg #[tv, cv], .string (Mt.str n)] w fun e w' => e = .returned (.bool (Mt.lacks s n)) ∧ Below w.heap.size w w' := by
  have HK := Lib.hid (fun (u : World) (hb : Below w.heap.size w u) => typeAt_any n hn (h.below hb))
  have hl : Mt.lacks s n = decide (Mt.tyAt s n < 0) := rfl
  rw [hl]
  have HA := Lib.hid ((Below.refl w.heap.size w).alloc (Nat.le_refl _) (.cells #[tv, cv] 59))
  have hrow := heap_alloc_new w (.cells #[tv, cv] 59)
  have p0 : (w.alloc (.cells #[tv, cv] 59)).cell? ⟨w.heap.size, 0, none⟩ = some tv := by rw [cell_of_row _ _ _ _ _ _ hrow]; rfl
  have p1 : (w.alloc (.cells #[tv, cv] 59)).cell? ⟨w.heap.size, 1, none⟩ = some cv := by rw [cell_of_row _ _ _ _ _ _ hrow]; rfl
  generalize Mt.tyAt s n = R at *
  generalize Mt.str n = N at *
  obtain ⟨d, hd⟩ : ∃ d, decide (R < 0) = d := ⟨_, rfl⟩
  rw [hd]
  clear hl hn h hrow
  go_enter Try.func50, Try.ntmps50
  go_wp2_with fail
  refine (HK.out _ HA.out).mono ?_
  rintro e w2 ⟨rfl, hb⟩
  have HB2 := Lib.hid (HA.out.trans (hb.mono HA.out.size))
  clear hb
  go_wp2_with fail
  go_ret
  exact ⟨rfl, HB2.out⟩
set_option maxRecDepth 100000 in
set_option maxHeartbeats 1000000 in
theorem indexLacks_any {tv cv : Value} {s : Mt.Sc} {w : World} {v : Value} {r : List (List UInt8)} (hv : IsNms w v r) (h : IsSc w tv cv s) (hr : ∀ a ∈ r, a.length ≤ 140737488351232) (hn : r.length ≤ 8796093022208) :
    Calls Try.prog 64 #[v, .func (.func 50) #[.agg #[tv, cv]] #[]] w fun e w' => e = .returned (.int .i64 (Mt.atL (Mt.lacks s) r)) ∧ Below w.heap.size w w' := by
  obtain ⟨a, cap, rfl, hcap, hcell⟩ := hv
  have HC := Lib.hid (fun (u : World) (hb : Below w.heap.size w u) => h.below hb)
  have hd := Mt.atL_spec (Mt.lacks s) r
  obtain ⟨k, hk⟩ : ∃ k, Mt.atL (Mt.lacks s) r = k := ⟨_, rfl⟩
  rw [hk] at hd ⊢
  have HD := Lib.hid hd
  have HR := Lib.hid hr
  clear hk hd hr h
  obtain ⟨m0, hm0⟩ : ∃ m, r.length = m := ⟨_, rfl⟩
  have HL := Lib.hid hm0
  rw [hm0] at hn ⊢
  clear hm0 hcap
  go_enter Try.func64, Try.ntmps64
  go_wp2_with fail
  go_loopw [8] (fun i wr => ∃ m : Nat, m ≤ m0 ∧ i = .int .i64 m ∧ Hid (∀ j (hj : j < r.length), j < m → Mt.lacks s r[j] = false) ∧ Hid (Below w.heap.size w wr))
    (fun i _ => m0 - (intOf i).toNat)
  case atStart => exact ⟨0, Nat.zero_le _, rfl, Lib.hid fun j _ h => absurd h (Nat.not_lt_zero _), Lib.hid (Below.refl _ _)⟩
  case round =>
    obtain ⟨m, hm, rfl, HO, HB⟩ := hrel
    by_cases hlt : m < m0
    · have hmr : m < r.length := by rw [HL.out]; exact hlt
      obtain ⟨b, off, e0, hbl, h0⟩ := hcell.out m hmr
      obtain ⟨t, ht⟩ : ∃ t, r[m] = t := ⟨_, rfl⟩
      rw [ht] at h0
      subst e0
      have x0 := (HB.out.cell (p := ⟨b, off + m, none⟩) hbl).trans h0
      have htl : t.length ≤ 140737488351232 := by have := HR.out _ (List.getElem_mem hmr); rw [ht] at this; omega
      have HP := Lib.hid (lacks_any t htl (HC.out wr HB.out))
      obtain ⟨q, hq⟩ : ∃ q, Mt.lacks s t = q := ⟨_, rfl⟩
      rw [hq] at HP
      have HQ : Hid (Mt.lacks s r[m] = q) := Lib.hid (by rw [ht]; exact hq)
      have HH : Hid (q = true → k = m) := Lib.hid (by
        intro h
        rcases HD.out with ⟨_, h2⟩ | ⟨m2, rfl, hm2, h3, h4⟩
        · have := h2 m hmr; rw [HQ.out, h] at this; cases this
        · by_cases e : m2 = m
          · rw [e]
          · rcases Nat.lt_or_ge m2 m with h5 | h5
            · have := HO.out m2 hm2 h5; rw [h3] at this; cases this
            · have := h4 m (by omega); rw [HQ.out, h] at this; cases this)
      have HO2 : Hid (q = false → ∀ j (hj : j < r.length), j < m + 1 → Mt.lacks s r[j] = false) := Lib.hid (by
        intro h j hj hlt2
        by_cases e : j = m
        · subst e; rw [HQ.out, h]
        · exact HO.out j hj (by omega))
      have d1 : decide ((m : Int) < (m0 : Int)) = true := decide_eq_true (by omega)
      have d2 : decide (m < m0) = true := decide_eq_true hlt
      clear hq hbl h0 HQ ht hmr htl
      generalize Mt.str t = T at *
      go_wp2_with fail
      refine (HP.out).mono ?_
      rintro e w2 ⟨rfl, hb⟩
      have HB2 := Lib.hid (HB.out.trans (hb.mono HB.out.size))
      clear hb
      cases q
      · go_wp2_with fail
        go_roundw
        case rel => exact ⟨m + 1, by omega, by go_num, Lib.hid (HO2.out (by first | rfl | trivial)), HB2⟩
        case measure => simp [intOf]; omega
      · go_wp2_with fail
        all_goals (go_ret; exact ⟨Mt.ret_int (HH.out (by first | rfl | trivial)).symm, HB2.out⟩)
    · have HH : Hid (k = -1) := Lib.hid (by
        rcases HD.out with ⟨h1, _⟩ | ⟨m2, rfl, hm2, h3, h4⟩
        · exact h1
        · have := HO.out m2 hm2 (by have := HL.out; omega); rw [h3] at this; cases this)
      have d1 : decide ((m : Int) < (m0 : Int)) = false := decide_eq_false (by omega)
      have d2 : decide (m < m0) = false := decide_eq_false hlt
      go_wp2_with fail
      go_ret
      exact ⟨Mt.ret_int HH.out.symm, HB.out⟩
theorem containsLacks_any {tv cv : Value} {s : Mt.Sc} {w : World} {v : Value} {r : List (List UInt8)} (hv : IsNms w v r) (h : IsSc w tv cv s) (hr : ∀ a ∈ r, a.length ≤ 140737488351232) (hn : r.length ≤ 8796093022208) :
    Calls Try.prog 49 #[v, .func (.func 50) #[.agg #[tv, cv]] #[]] w fun e w' => e = .returned (.bool (r.any (Mt.lacks s))) ∧ Below w.heap.size w w' := by
  have H := Lib.hid (indexLacks_any hv h hr hn)
  obtain ⟨a, cap, rfl, _⟩ := hv
  rw [← Mt.atL_any]
  generalize Mt.atL (Mt.lacks s) r = k at *
  obtain ⟨q, hq⟩ : ∃ q, decide (0 ≤ k) = q := ⟨_, rfl⟩
  rw [hq]
  clear h hr hn
  go_enter Try.func49, Try.ntmps49
  go_wp2_with fail
  refine (H.out).mono ?_
  rintro e w' ⟨rfl, hb⟩
  have HB := Lib.hid hb
  clear hb
  go_wp2_with fail
  go_ret
  exact ⟨rfl, HB.out⟩
end Go.Proofs.Ythkhicpkkmhfbaa
