/-
  What the document's has comes to.
-/
import Derived.Test.YthpedokhalndjabDnRa
namespace Go.Proofs.Ythpedokhalndjab
open Go.RowKit

set_option maxRecDepth 100000 in
set_option maxHeartbeats 1000000 in
theorem rhas_any {w : World} {v : Value} {r : List Mt.Av} (hv : IsAvs w v r) (t : ByteArray) (ht : t.size ≤ 140737488351232) (hr : ∀ a ∈ r, a.1.length ≤ 140737488351232) :
    Calls Try.prog 41 #[v, .string t] w fun e w' => e = .returned (.bool (Mt.hasL r t.data.toList)) ∧ Below w.heap.size w w' := by
  have HV := Lib.hid hv
  obtain ⟨a, cap, rfl, hn, hcap, _⟩ := hv
  have HX := Lib.hid (HV.out.row)
  obtain ⟨Z, hZ⟩ : ∃ Z, Mt.hasL r t.data.toList = Z := ⟨_, rfl⟩
  have HY : Hid (∀ j (h : j < r.length), decide (Mt.foldL r[j].1 = Mt.foldL t.data.toList) = true → Z = true) := Lib.hid (by
    intro j h e; rw [← hZ]; unfold Mt.hasL; rw [List.any_eq_true]; exact ⟨_, List.getElem_mem h, e⟩)
  have HN : Hid ((∀ j (h : j < r.length), decide (Mt.foldL r[j].1 = Mt.foldL t.data.toList) = false) → Z = false) := Lib.hid (by
    intro h; rw [← hZ]; unfold Mt.hasL; rw [List.any_eq_false]
    intro x hx
    obtain ⟨j, hj, rfl⟩ := List.mem_iff_getElem.1 hx
    have := h j hj; simpa using this)
  have HR := Lib.hid hr
  have HF2 := Lib.hid (fun u => rfold_any t u ht)
  obtain ⟨T, hT⟩ : ∃ T, Mt.str (t.data.toList.map Mt.sm) = T := ⟨_, rfl⟩
  have HTT : Hid (∀ x : List UInt8, decide (Mt.foldL x = Mt.foldL t.data.toList) = ((Mt.str (Mt.foldL x)).toList == T.toList)) := Lib.hid (by
    intro x
    rw [Mt.beq_dec, ← hT, Bool.eq_iff_iff]; simp only [decide_eq_true_eq]
    exact ⟨fun h => by rw [h]; rfl, fun h => by rw [← Mt.str_data (Mt.foldL x), h]; rfl⟩)
  rw [hT] at HF2
  rw [hZ]
  clear hr hZ hT ht HV
  go_enter Try.func41, Try.ntmps41
  go_wp2_with fail
  go_loopw [9] (fun i wr => ∃ k : Nat, k ≤ r.length ∧ i = .int .i64 k ∧ Hid (∀ j (h : j < r.length), j < k → decide (Mt.foldL r[j].1 = Mt.foldL t.data.toList) = false) ∧ Hid (Below w.heap.size w wr))
    (fun i _ => r.length - (intOf i).toNat)
  case atStart => exact ⟨0, Nat.zero_le _, rfl, Lib.hid fun j _ h => absurd h (Nat.not_lt_zero _), Lib.hid (Below.refl _ _)⟩
  case round =>
    obtain ⟨k, hk, rfl, HO, HB⟩ := hrel
    by_cases hlt : k < r.length
    · obtain ⟨b, off, rfl, hload⟩ := HX.out k hlt
      obtain ⟨hl0, hl1⟩ := hload wr HB.out
      have HF1 := Lib.hid (fun u => rfold_any (Mt.str r[k].1) u (by rw [Mt.str_size]; exact HR.out _ (List.getElem_mem hlt)))
      rw [Mt.str_data] at HF1
      have HZ := Lib.hid (HTT.out r[k].1)
      obtain ⟨A, hA⟩ : ∃ A, Mt.str (Mt.foldL r[k].1) = A := ⟨_, rfl⟩
      have hA' : Mt.str (List.map Mt.sm r[k].1) = A := hA
      rw [hA'] at HF1
      obtain ⟨z, hz⟩ : ∃ z, (A.toList == T.toList) = z := ⟨_, rfl⟩
      have HQ : Hid (decide (Mt.foldL r[k].1 = Mt.foldL t.data.toList) = z) := Lib.hid (by rw [HZ.out, hA, hz])
      have hb0 := (Below.refl wr.heap.size wr).alloc (Nat.le_refl _) (.cells #[.string (Mt.str r[k].1), .string (Mt.str r[k].2)] 74)
      have HBx := Lib.hid (HB.out.trans (hb0.mono HB.out.size))
      obtain ⟨p1, p2⟩ := box2_of (heap_alloc_new wr (.cells #[.string (Mt.str r[k].1), .string (Mt.str r[k].2)] 74))
      clear hb0 hload HZ hA hA'
      go_wp2_with fail
      refine (HF1.out _).mono ?_
      rintro e w2 ⟨rfl, hb⟩
      have HB2 := Lib.hid (HBx.out.trans (hb.mono HBx.out.size))
      clear hb
      go_wp2_with fail
      refine (HF2.out _).mono ?_
      rintro e w3 ⟨rfl, hb⟩
      have HB3 := Lib.hid (HB2.out.trans (hb.mono HB2.out.size))
      clear hb
      cases z
      · have HO2 : Hid (∀ j (h : j < r.length), j < k + 1 → decide (Mt.foldL r[j].1 = Mt.foldL t.data.toList) = false) := Lib.hid (by
          intro j h h2
          by_cases e : j = k
          · subst e; exact HQ.out
          · exact HO.out j h (by omega))
        go_wp2_with fail
        go_roundw
        case rel => exact ⟨k + 1, by omega, by go_num, HO2, HB3⟩
        case measure => simp [intOf]; omega
      · have HF := Lib.hid (HY.out k hlt HQ.out)
        go_wp2_with fail
        go_ret
        exact ⟨Mt.ret_bool HF.out.symm, HB3.out⟩
    · have HF := Lib.hid (HN.out fun j h => HO.out j h (by omega))
      go_wp2_with fail
      go_ret
      exact ⟨Mt.ret_bool HF.out.symm, HB.out⟩
end Go.Proofs.Ythpedokhalndjab
