/-
  What the calls dn.askRDN and ask come to.
-/
import Derived.Test.YtfogcgegllhmmaaGreatDoorDnJ
namespace Go.Proofs.YtfogcgegllhmmaaGreatDoor
open Go.RowKit

set_option maxRecDepth 100000 in
theorem ask1_any (a : Mt.Av) (w : World) :
    Calls Tryz.prog 125 #[avV a] w fun e w' => e = .returned (.bool (decide (4096 < a.2.length))) ∧ Below w.heap.size w w' := by
  have hs : (Mt.str a.2).size = a.2.length := Mt.str_size _
  obtain ⟨z, hz⟩ : ∃ z, decide ((4096 : Int) < ((Mt.str a.2).size : Int)) = z := ⟨_, rfl⟩
  have HZ : Hid (decide (4096 < a.2.length) = z) := Lib.hid (by rw [← hz, hs, Bool.eq_iff_iff]; simp only [decide_eq_true_eq]; omega)
  have hb0 := (Below.refl w.heap.size w).alloc (Nat.le_refl _) (.cells #[.string (Mt.str a.1), .string (Mt.str a.2)] 104)
  have HA := Lib.hid hb0
  obtain ⟨p1, p2⟩ := box2_of (heap_alloc_new w (.cells #[.string (Mt.str a.1), .string (Mt.str a.2)] 104))
  rw [HZ.out]
  unfold avV
  clear hb0 hs HZ
  go_enter Tryz.func125, Tryz.ntmps125
  go_wp2_with fail
  go_ret
  exact ⟨rfl, HA.out⟩

set_option maxRecDepth 100000 in
theorem indexAsk_any {w : World} {v : Value} {r : List Mt.Av} (hv : IsAvs w v r)  :
    ∃ k : Int, decide (0 ≤ k) = r.any (fun a => decide (4096 < a.2.length)) ∧ Calls Tryz.prog 139 #[v, .func (.func 125) #[] #[]] w fun e w' => e = .returned (.int .i64 k) ∧ Below w.heap.size w w' := by
  obtain ⟨a, cap, rfl, hn, hcap, hcell⟩ := hv
  obtain ⟨k, hk, hd⟩ : ∃ k : Int, decide (0 ≤ k) = r.any (fun a => decide (4096 < a.2.length)) ∧ ((k = -1 ∧ ∀ j (hj : j < r.length), decide (4096 < r[j].2.length) = false) ∨ ∃ m : Nat, k = m ∧ ∃ hm : m < r.length, decide (4096 < r[m].2.length) = true ∧ ∀ j (hj : j < m), decide (4096 < (r[j]'(by omega)).2.length) = false) := by
    cases hf : r.findIdx? (fun a => decide (4096 < a.2.length)) with
    | none =>
      rw [List.findIdx?_eq_none_iff] at hf
      refine ⟨-1, ?_, .inl ⟨rfl, fun j hj => hf _ (List.getElem_mem hj)⟩⟩
      have : r.any (fun a => decide (4096 < a.2.length)) = false := by
        rw [List.any_eq_false]; intro x hx; have := hf x hx; simpa using this
      rw [this]; rfl
    | some m =>
      rw [List.findIdx?_eq_some_iff_getElem] at hf
      obtain ⟨hm, h1, h2⟩ := hf
      refine ⟨m, ?_, .inr ⟨m, rfl, hm, h1, fun j hj => by have := h2 j hj; simpa using this⟩⟩
      have : r.any (fun a => decide (4096 < a.2.length)) = true := by
        rw [List.any_eq_true]; exact ⟨_, List.getElem_mem hm, h1⟩
      rw [this]; simp
  refine ⟨k, hk, ?_⟩
  have HD := Lib.hid hd
  clear hk hd
  have HX : Hid (∀ j (hj : j < r.length), ∃ b off, a = some ⟨b, off, none⟩ ∧ ∀ u, Below w.heap.size w u → u.cell? ⟨b, off + j * 2, none⟩ = some (.string (Mt.str r[j].1)) ∧ u.cell? ⟨b, off + j * 2 + 1, none⟩ = some (.string (Mt.str r[j].2))) := by
    intro j hj
    rcases hcell with h | ⟨b, off, h1, h2, h3⟩
    · subst h; simp at hj
    · exact ⟨b, off, h1, fun u hu => ⟨(hu.cell (p := ⟨b, off + j * 2, none⟩) h2).trans (h3 j hj).1, (hu.cell (p := ⟨b, off + j * 2 + 1, none⟩) h2).trans (h3 j hj).2⟩⟩
  clear hcell
  go_enter Tryz.func139, Tryz.ntmps139
  go_wp2_with fail
  go_loopw [8] (fun i wr => ∃ m : Nat, m ≤ r.length ∧ i = .int .i64 m ∧ Hid (∀ j (hj : j < r.length), j < m → decide (4096 < r[j].2.length) = false) ∧ Hid (Below w.heap.size w wr))
    (fun i _ => r.length - (intOf i).toNat)
  case atStart => exact ⟨0, Nat.zero_le _, rfl, Lib.hid fun j _ h => absurd h (Nat.not_lt_zero _), Lib.hid (Below.refl _ _)⟩
  case round =>
    obtain ⟨m, hm, rfl, HO, HB⟩ := hrel
    by_cases hlt : m < r.length
    · obtain ⟨b, off, rfl, hload⟩ := HX.out m hlt
      obtain ⟨hl0, hl1⟩ := hload wr HB.out
      have HP := Lib.hid (ask1_any r[m] wr)
      obtain ⟨q, hq⟩ : ∃ q, decide (4096 < r[m].2.length) = q := ⟨_, rfl⟩
      rw [hq] at HP
      have HQ := Lib.hid hq
      have HH : Hid (q = true → k = m) := Lib.hid (by
        intro h
        rcases HD.out with ⟨_, h2⟩ | ⟨m2, rfl, hm2, h3, h4⟩
        · have := h2 m hlt; rw [HQ.out, h] at this; cases this
        · by_cases e : m2 = m
          · rw [e]
          · rcases Nat.lt_or_ge m2 m with h5 | h5
            · have := HO.out m2 hm2 h5; rw [h3] at this; cases this
            · have := h4 m (by omega); rw [HQ.out, h] at this; cases this)
      have HO2 : Hid (q = false → ∀ j (hj : j < r.length), j < m + 1 → decide (4096 < r[j].2.length) = false) := Lib.hid (by
        intro h j hj hlt2
        by_cases e : j = m
        · subst e; rw [HQ.out, h]
        · exact HO.out j hj (by omega))
      clear hq hload
      go_wp2_with fail
      refine (HP.out).mono ?_
      rintro e w2 ⟨rfl, hb⟩
      have HB2 := Lib.hid (HB.out.trans (hb.mono HB.out.size))
      clear hb
      cases q
      · go_wp2_with fail
        go_roundw
        case rel => exact ⟨m + 1, by omega, by go_num, Lib.hid (HO2.out (by first | rfl | trivial)), HB2⟩
        case measure => simp [intOf]; omega
      · go_wp2_with fail
        go_ret
        exact ⟨Mt.ret_int (HH.out (by first | rfl | trivial)).symm, HB2.out⟩
    · have HH : Hid (k = -1) := Lib.hid (by
        rcases HD.out with ⟨h1, _⟩ | ⟨m2, rfl, hm2, h3, h4⟩
        · exact h1
        · have := HO.out m2 hm2 (by omega); rw [h3] at this; cases this)
      go_wp2_with fail
      go_ret
      exact ⟨Mt.ret_int HH.out.symm, HB.out⟩

theorem containsAsk_any {w : World} {v : Value} {r : List Mt.Av} (hv : IsAvs w v r)  :
    Calls Tryz.prog 117 #[v, .func (.func 125) #[] #[]] w fun e w' => e = .returned (.bool (r.any (fun a => decide (4096 < a.2.length)))) ∧ Below w.heap.size w w' := by
  obtain ⟨k, hk, hcall⟩ := indexAsk_any hv
  obtain ⟨a, cap, rfl, _⟩ := hv
  have H := Lib.hid hcall
  rw [← hk]
  obtain ⟨q, hq⟩ : ∃ q, decide (0 ≤ k) = q := ⟨_, rfl⟩
  rw [hq]
  clear hcall hk
  go_enter Tryz.func117, Tryz.ntmps117
  go_wp2_with fail
  refine (H.out).mono ?_
  rintro e w' ⟨rfl, hb⟩
  have HB := Lib.hid hb
  clear hb
  go_wp2_with fail
  go_ret
  exact ⟨rfl, HB.out⟩

end Go.Proofs.YtfogcgegllhmmaaGreatDoor
