/-
  How many places a book has; a book that is none.
-/
import Derived.Test.YtmdhioifdnaajaaPgI
set_option linter.unusedVariables false
set_option linter.unusedSimpArgs false
namespace Go.Proofs.Ytmdhioifdnaajaa
open Go.RowKit Go.Shelf Go.Maps

def keyL (c : Int) : Lit := .int .i64 c
theorem sameKeyL (a b : Int) : (keyL a).sameKey (keyL b) = decide (a = b) := by unfold keyL; simp [Lit.sameKey]
/-- How many places are of connections that have been met. -/
def Mt.metB (left : Lit → Bool) (L : Mt.Bk) : Nat := (L.filter fun q => !left (keyL q.1)).length
theorem Mt.metB_start {left : Lit → Bool} {L : Mt.Bk} (h : ∀ q ∈ L, left (keyL q.1) = true) : Mt.metB left L = 0 := by
  unfold Mt.metB
  rw [List.filter_eq_nil_iff.2 (fun q hq => by rw [h q hq]; decide)]; rfl
theorem Mt.metB_end {left : Lit → Bool} {L : Mt.Bk} (h : ∀ k, left k = false) : Mt.metB left L = L.length := by
  unfold Mt.metB
  rw [List.filter_eq_self.2 (fun q _ => by rw [h]; rfl)]
theorem Mt.metB_step {left : Lit → Bool} {x : Int} (hx : left (keyL x) = true) : ∀ (L : Mt.Bk), Mt.metB (fun z => left z && !z.sameKey (keyL x)) L = Mt.metB left L + (Mt.rowB x L).length
  | [] => rfl
  | q :: r => by
    have ih := Mt.metB_step hx r
    unfold Mt.metB at ih ⊢
    rw [Mt.rowB_cons]
    by_cases e : q.1 = x
    · rw [if_pos e, List.length_cons]
      rw [List.filter_cons_of_pos (by simp [e, sameKeyL]), List.filter_cons_of_neg (by rw [e, hx]; decide), List.length_cons, ih]
      omega
    · rw [if_neg e]
      have hs : (keyL q.1).sameKey (keyL x) = false := by rw [sameKeyL]; exact decide_eq_false e
      cases hq : left (keyL q.1) with
      | true =>
        rw [List.filter_cons_of_neg (by simp [hq, hs]), List.filter_cons_of_neg (by simp [hq]), ih]
      | false =>
        rw [List.filter_cons_of_pos (by simp [hq]), List.filter_cons_of_pos (by simp [hq]), List.length_cons, List.length_cons, ih]
        omega
theorem Mt.metB_le (left : Lit → Bool) (L : Mt.Bk) : Mt.metB left L ≤ L.length := List.length_filter_le _ _
theorem rise_len : ∀ (l : List Nat) (m b : Nat), l.Pairwise (· < ·) → (∀ x ∈ l, b ≤ x ∧ x ≤ m) → l.length + b ≤ m + 1 + (if l = [] then b else 0)
  | [], m, b, _, _ => by simp
  | [x], m, b, _, h => by have := h x (by simp); simp; omega
  | x :: y :: r, m, b, hp, h => by
    have hx := h x (by simp)
    rw [List.pairwise_cons] at hp
    have ih := rise_len (y :: r) m (b + 1) hp.2 (fun z hz => ⟨by have := hp.1 z hz; omega, (h z (by simp [hz])).2⟩)
    simp at ih ⊢
    omega
theorem Mt.BkOk.len {last : Nat} {L : Mt.Bk} (h : Mt.BkOk last L) : L.length ≤ last + 1 := by
  have := rise_len (L.map (·.2.num)) last 0 h.rise (fun x hx => by
    obtain ⟨q, hq, rfl⟩ := List.mem_map.1 hx
    exact ⟨Nat.zero_le _, h.le q hq⟩)
  simp at this
  exact this
set_option maxRecDepth 100000 in
set_option maxHeartbeats 2000000 in
theorem len26_any {w : World} {B : Nat} {S : Nat → Prop} {N last : Nat} {L : Mt.Bk} (hN : N ≤ 100000) (h : IsBook w B S N last L) :
    Calls Try.prog 12 #[.pointer (some ⟨B, 0, none⟩)] w fun e w' => e = .returned (.int .i64 (L.length : Int)) ∧ Below w.heap.size w w' := by
  obtain ⟨bm, D, g, h1, h2, h3, h4, h5, h6⟩ := h.ex
  have x1 := (box2G h1).1.2
  have HO := Lib.hid h2
  have HR := Lib.hid h3
  have HLL : Hid (L.length ≤ 100001) := Lib.hid (by have := h.ok.len; have := h.le; omega)
  have HBM := Lib.hid (World.ownsMap.lt h2)
  have HST : Hid (Mt.metB (Maps.has D) L = 0) := Lib.hid (Mt.metB_start (fun q hq => (h3.has q.1).2 (Mt.rowB_ne.2 ⟨q, hq, rfl⟩)))
  clear h h1 h2 h3 h4 h5 h6
  go_enter Try.func12, Try.ntmps12
  go_wp2_with (refine wpList_range_own _ rfl _ 40 rfl 3 44 keyLawB Try.underlying40 RB bm N D rfl HO.out ?_; intro w0 hrg0 hg0 hs0)
  go_frame
  have HRG0 := Lib.hid hrg0
  have HB0 : Hid (Below w.heap.size w w0) := Lib.hid ⟨hg0.os, hg0.tape, hg0.output, hg0.size, fun k hk => hg0.block k hk (by simp)⟩
  clear hrg0 hg0 hs0
  generalize hrn : w.heap.size = rn at *
  go_loopw [3] (fun cv wr => ∃ (left : Lit → Bool) (cnt : Nat), cv = .int .i64 ((Mt.metB left L : Nat) : Int) ∧ Hid (wr.ranges Try.prog 3 RB bm rn N D left cnt) ∧ Hid (Below rn w wr))
    (fun _ wr => wr.rangeLeft bm rn)
  case atStart => exact ⟨_, _, by rw [HST.out]; rfl, HRG0, HB0⟩
  case round =>
    clear HRG0 HB0
    obtain ⟨left, cnt, rfl, HRG, HB⟩ := hrel
    go_wp2_with (refine wpList_next_ranges _ rfl _ rfl 3 keyLawB RB (Value.int .i64) (fun (p : Option Addr × Nat × Nat) => Value.slice p.1 p.2.1 p.2.2) (fun key kl hk => by obtain ⟨x, hx, _⟩ := Maps.keyOf_int_inv Try.underlying3 hk; exact ⟨x, hx⟩) (fun v y hv => by obtain ⟨a, n, c, hc, _⟩ := RB_inv hv; exact ⟨(a, n, c), hc⟩) bm rn N D left cnt rfl HRG.out ?_ ?_)
    · intro hc0 hl0
      have HE : Hid (Mt.metB left L = L.length) := Lib.hid (Mt.metB_end hl0)
      rw [HE.out]
      clear hc0 hl0
      go_wp2_with fail
      all_goals (go_ret; exact ⟨rfl, by rw [hrn]; exact HB.out⟩)
    · intro x pa pn pc kl yd yp w3 cnt3 hkey hlk hv hat hrg3 hlt3 hg3 hs3 hen
      obtain ⟨x', ex, rfl, hwx⟩ := Maps.keyOf_int_inv Try.underlying3 hkey
      cases ex
      obtain ⟨rfl, -⟩ : DataW.held (.slice pa pn pc) = yd ∧ [] = yp := by simpa [RB] using hv
      have hrow : Mt.metB (fun z => left z && !z.sameKey (keyL x)) L = Mt.metB left L + pn := by
        rw [Mt.metB_step hlk]
        obtain ⟨v, hv1, hv2⟩ := HR.out.row x
        rw [hat] at hv1
        injection hv1 with hv1
        obtain ⟨a8, c8, e8⟩ := hv2.form
        rw [← hv1] at e8
        injection e8 with _ e8 _
        rw [e8]
      have hle := Mt.metB_le (fun z => left z && !z.sameKey (keyL x)) L
      have hll := HLL.out
      have wc : wrap64 (((Mt.metB left L : Nat) : Int) + (pn : Int)) = ((Mt.metB left L : Nat) : Int) + (pn : Int) := by unfold wrap64; omega
      have HRG3 := Lib.hid hrg3
      have HB3 : Hid (Below rn w w3) := Lib.hid (HB.out.trans ⟨hg3.os, hg3.tape, hg3.output, hg3.size, fun k hk => hg3.block k (by have := HB.out.size; omega) (fun e => by cases e; omega)⟩)
      have HROW : Hid (((Mt.metB (fun z => left z && !z.sameKey (keyL x)) L : Nat) : Int) = ((Mt.metB left L : Nat) : Int) + (pn : Int)) := Lib.hid (by rw [hrow]; omega)
      have HLT := Lib.hid hlt3
      have HLE := Lib.hid HRG.out.left_eq
      clear hkey hlk hv hat hrg3 hlt3 hg3 hs3 hwx hrow hle hll
      generalize Mt.metB left L = q at *
      go_wp2_with fail
      try go_frame
      go_roundw
      case rel => exact ⟨_, cnt3, by rw [← keyL, HROW.out]; exact congrArg _ wc, HRG3, HB3⟩
      case measure => rw [HRG3.out.left_eq, HLE.out]; exact HLT.out
end Go.Proofs.Ytmdhioifdnaajaa
