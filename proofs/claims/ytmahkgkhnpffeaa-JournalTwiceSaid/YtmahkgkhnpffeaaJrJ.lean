/-
  What ask, holds and become come to.
-/
import Derived.Test.YtmahkgkhnpffeaaJrI
namespace Go.Proofs.Ytmahkgkhnpffeaa
open Go.RowKit

/-- Texts in a slice, wherever they lie. -/
def IsTs (w : World) (v : Value) (ls : List (List UInt8)) : Prop :=
  ∃ a cap, v = .slice a ls.length cap ∧ ls.length ≤ cap ∧ (ls = [] ∨ ∃ b off, a = some ⟨b, off, none⟩ ∧ b < w.heap.size ∧ ∀ j (hj : j < ls.length), w.cell? ⟨b, off + j, none⟩ = some (.string (Mt.str ls[j])))
theorem IsTs.below {w u : World} {v : Value} {ls : List (List UInt8)} (h : IsTs w v ls) (hb : Below w.heap.size w u) : IsTs u v ls := by
  obtain ⟨a, cap, h1, h2, h4⟩ := h
  refine ⟨a, cap, h1, h2, ?_⟩
  rcases h4 with h4 | ⟨b, off, h5, h6, h7⟩
  · exact .inl h4
  · exact .inr ⟨b, off, h5, Nat.lt_of_lt_of_le h6 hb.size, fun i hi => (hb.cell (p := ⟨b, off + i, none⟩) h6).trans (h7 i hi)⟩
/-- A slice of texts, opened: each text where it lies. -/
theorem IsTs.open {w : World} {v : Value} {ls : List (List UInt8)} (h : IsTs w v ls) : ∃ a cap, v = .slice a ls.length cap ∧ Hid (∀ j (hj : j < ls.length), ∃ b off, a = some ⟨b, off, none⟩ ∧ b < w.heap.size ∧ w.cell? ⟨b, off + j, none⟩ = some (.string (Mt.str ls[j]))) := by
  obtain ⟨a, cap, h1, h2, h4⟩ := h
  refine ⟨a, cap, h1, Lib.hid fun j hj => ?_⟩
  rcases h4 with h4 | ⟨b, off, h5, h6, h7⟩
  · subst h4; simp at hj
  · exact ⟨b, off, h5, h6, h7 j hj⟩

section
variable {w u : World} {J B bl bm : Nat} {j : Mt.Jn} {d : Mt.Dk}
theorem ask_nil6 (v : Value) (w : World) : Calls Try.prog 24 #[.pointer none, v] w fun e w' => e = .returned (.int .i64 1) ∧ w = w' := by
  go_enter Try.func24, Try.ntmps24
  go_wp2
  go_ret
  exact ⟨rfl, rfl⟩
theorem Mt.ask_long {j : Mt.Jn} {bs : List (List UInt8)} {k : Nat} (hk : k < bs.length) (hc : j.closed = false) (hl : 262144 < bs[k].length) : Mt.askJ j bs = 5 := by
  unfold Mt.askJ
  rw [hc]
  have : bs.all (fun b => decide (b.length ≤ 262144)) = false := by
    rw [List.all_eq_false]
    exact ⟨bs[k], List.getElem_mem hk, by simp; omega⟩
  rw [this]; rfl
theorem Mt.ask_ok {j : Mt.Jn} {bs : List (List UInt8)} (hc : j.closed = false) (hl : ∀ k (hk : k < bs.length), bs[k].length ≤ 262144) : Mt.askJ j bs = 0 := by
  unfold Mt.askJ
  rw [hc]
  have : bs.all (fun b => decide (b.length ≤ 262144)) = true := by
    rw [List.all_eq_true]
    intro b hb
    obtain ⟨k, hk, rfl⟩ := List.mem_iff_getElem.1 hb
    simpa using hl k hk
  rw [this]; rfl
set_option maxRecDepth 100000 in
theorem ask6_any (h : IsJ w J B j) {v : Value} {bs : List (List UInt8)} (hv : IsTs w v bs) (hn : bs.length ≤ 9223372036854775807) :
    Calls Try.prog 24 #[.pointer (some ⟨J, 0, none⟩), v] w fun e w' => e = .returned (.int .i64 (Mt.askJ j bs)) ∧ w = w' := by
  obtain ⟨c0, c1, c2, c3, c4, c5, c6⟩ := h.cells
  clear h
  obtain ⟨a, cap, rfl, HX⟩ := hv.open
  clear hv
  cases hcl : j.closed with
  | true =>
    rw [hcl] at c6
    have HR := Lib.hid (show Mt.askJ j bs = 12 by unfold Mt.askJ; rw [hcl]; rfl)
    clear hcl
    go_enter Try.func24, Try.ntmps24
    go_wp2
    go_ret
    exact ⟨Mt.ret_int HR.out.symm, rfl⟩
  | false =>
    rw [hcl] at c6
    have HCL := Lib.hid hcl
    clear hcl
    go_enter Try.func24, Try.ntmps24
    go_wp2_with fail
    go_loop [6, 15] (fun x i => ∃ k : Nat, k ≤ bs.length ∧ i = .int .i64 k ∧ Hid (∀ m (hm : m < bs.length), m < k → bs[m].length ≤ 262144)) (fun _ i => bs.length - (intOf i).toNat)
    case atStart => exact ⟨0, Nat.zero_le _, rfl, Lib.hid fun m _ h => by omega⟩
    case round =>
      obtain ⟨k, hk, rfl, HA⟩ := hrel
      by_cases hlt : k < bs.length
      · obtain ⟨b, off, rfl, hb, hcell⟩ := HX.out k hlt
        obtain ⟨L, hL⟩ : ∃ L, bs[k].length = L := ⟨_, rfl⟩
        have HL := Lib.hid hL
        have hz : (Mt.str bs[k]).size = L := by rw [Mt.str_size, hL]
        clear hL
        generalize Mt.str bs[k] = S at *
        by_cases hl : 262144 < L
        · have hd : decide ((262144 : Int) < (L : Int)) = true := decide_eq_true (by omega)
          have hd2 : decide (262144 < L) = true := decide_eq_true hl
          have HB := Lib.hid hl
          clear hl
          go_wp2_with fail
          go_ret
          exact ⟨Mt.ret_int (Mt.ask_long hlt HCL.out (by rw [HL.out]; exact HB.out)).symm, rfl⟩
        · have hd : decide ((262144 : Int) < (L : Int)) = false := decide_eq_false (by omega)
          have hd2 : decide (262144 < L) = false := decide_eq_false hl
          have HB := Lib.hid hl
          clear hl
          go_wp2_with fail
          go_round
          case rel =>
            refine ⟨k + 1, by omega, by go_num, Lib.hid fun m hm h => ?_⟩
            by_cases e : m = k
            · subst e; have := HB.out; have := HL.out; omega
            · exact HA.out m hm (by omega)
          case measure => simp [intOf]; omega
      · obtain rfl : k = bs.length := by omega
        go_wp2_with fail
        go_ret
        exact ⟨Mt.ret_int (Mt.ask_ok HCL.out (fun m hm => HA.out m hm hm)).symm, rfl⟩

theorem Mt.needs_append (a b : List (List UInt8)) : Mt.needs (a ++ b) = Mt.needs a + Mt.needs b := by
  induction a with
  | nil => simp [Mt.needs]
  | cons x r ih => simp only [List.cons_append, Mt.needs, ih]; omega
theorem Mt.needs_snoc (bs : List (List UInt8)) (k : Nat) (h : k < bs.length) : Mt.needs (bs.take (k + 1)) = Mt.needs (bs.take k) + Mt.cellsN bs[k].length := by
  rw [List.take_succ_eq_append_getElem h, Mt.needs_append]
  simp [Mt.needs]
theorem Mt.cellsN_le (n : Nat) (h : n ≤ 1048576) : Mt.cellsN n ≤ 9534 := by unfold Mt.cellsN; omega
theorem Mt.needs_le (bs : List (List UInt8)) (h : ∀ b ∈ bs, b.length ≤ 1048576) : ∀ k, Mt.needs (bs.take k) ≤ 9534 * k := by
  intro k
  induction k with
  | zero => simp [Mt.needs]
  | succ k ih =>
    by_cases hk : k < bs.length
    · rw [Mt.needs_snoc bs k hk]
      have := Mt.cellsN_le _ (h _ (List.getElem_mem hk))
      omega
    · rw [List.take_of_length_le (by omega)] at ih ⊢
      omega
set_option maxRecDepth 100000 in
theorem holds_any (h : JD w J B bl bm j d) {v : Value} {bs : List (List UInt8)} (hv : IsTs w v bs) (hn : bs.length ≤ 8796093022208) (hb : ∀ b ∈ bs, b.length ≤ 1048576) :
    Calls Try.prog 38 #[.pointer (some ⟨J, 0, none⟩), v] w fun e w' => e = .returned (.bool (j.holds d bs)) ∧ Below w.heap.size w w' := by
  have hc := h.jn.cells.1
  have HRO := Lib.hid (room_any h.dk)
  have HLE := Lib.hid (left_any h)
  have HR := Lib.hid (show j.holds d bs = (decide (2 ≤ d.room) && decide (Mt.needs bs ≤ j.left d)) from rfl)
  have hRl : d.room ≤ 8192 := Nat.le_trans h.dk.ok.room h.dk.ok.most
  have hLl : j.left d ≤ 16384 := by unfold Mt.Jn.left; have := hsize_le h; omega
  clear h
  obtain ⟨a, cap, rfl, HX⟩ := hv.open
  clear hv
  have HNL := Lib.hid (Mt.needs_le bs hb)
  have HCL := Lib.hid (fun k (hk : k < bs.length) (u : World) => cells_any bs[k].length u (by have := hb _ (List.getElem_mem hk); omega))
  have HCS := Lib.hid (fun k (hk : k < bs.length) => Mt.cellsN_le bs[k].length (hb _ (List.getElem_mem hk)))
  clear hb
  generalize j.holds d bs = r at HR ⊢
  generalize d.room = R at *
  generalize j.left d = L at *
  go_enter Try.func38, Try.ntmps38
  go_wp2_with fail
  go_loop [5, 7, 10] (fun s x i => ∃ k : Nat, k ≤ bs.length ∧ i = .int .i64 k ∧ s = .int .i64 (Mt.needs (bs.take k))) (fun _ _ i => bs.length - (intOf i).toNat)
  case atStart => exact ⟨0, Nat.zero_le _, rfl, rfl⟩
  case round =>
    obtain ⟨k, hk, rfl, rfl⟩ := hrel
    by_cases hlt : k < bs.length
    · obtain ⟨b, off, rfl, hb, hcell⟩ := HX.out k hlt
      have hnl := HNL.out k
      have hcs := HCS.out k hlt
      have HSN := Lib.hid (Mt.needs_snoc bs k hlt)
      have HC := Lib.hid (HCL.out k hlt)
      have hz : (Mt.str bs[k]).size = bs[k].length := Mt.str_size _
      generalize Mt.str bs[k] = S at *
      generalize bs[k].length = l at *
      generalize Mt.needs (bs.take k) = s at *
      go_wp2_with fail
      refine (HC.out _).mono ?_
      rintro e w1 ⟨rfl, rfl⟩
      generalize Mt.cellsN l = c at *
      go_wp2_with fail
      go_round
      case rel => exact ⟨k + 1, by omega, by go_num, by rw [HSN.out]; go_num⟩
      case measure => simp [intOf]; omega
    · obtain rfl : k = bs.length := by omega
      have hnl := HNL.out bs.length
      have HT := Lib.hid (show Mt.needs (bs.take bs.length) = Mt.needs bs by rw [List.take_length])
      generalize Mt.needs (bs.take bs.length) = s at *
      by_cases h2 : 2 ≤ R
      · have hd : decide ((2 : Int) ≤ (R : Int)) = true := decide_eq_true (by omega)
        have hd2 : decide (2 ≤ R) = true := decide_eq_true h2
        have HD := Lib.hid hd2
        clear h2
        go_wp2_with fail
        refine (HRO.out).mono ?_
        rintro e w1 ⟨rfl, rfl⟩
        go_wp2_with fail
        refine (HLE.out).mono ?_
        rintro e w1 ⟨rfl, hb⟩
        have HB := Lib.hid hb
        clear hb
        go_wp2_with fail
        go_ret
        exact ⟨Mt.ret_bool (by rw [HR.out, HD.out, ← HT.out, Bool.eq_iff_iff]; simp), HB.out⟩
      · have hd : decide ((2 : Int) ≤ (R : Int)) = false := decide_eq_false (by omega)
        have hd2 : decide (2 ≤ R) = false := decide_eq_false h2
        have HD := Lib.hid hd2
        clear h2
        go_wp2_with fail
        refine (HRO.out).mono ?_
        rintro e w1 ⟨rfl, rfl⟩
        go_wp2_with fail
        go_ret
        exact ⟨Mt.ret_bool (by rw [HR.out, HD.out]; rfl), Below.refl _ _⟩
end
end Go.Proofs.Ytmahkgkhnpffeaa
