/-
  What the calls dn.askRDN and ask come to.
-/
import Derived.Test.YtfogcgegllhmmaaGreatDoorDnK
namespace Go.Proofs.YtfogcgegllhmmaaGreatDoor
open Go.RowKit

theorem Mt.drop_av (r : List Mt.Av) (k : Nat) (h : k < r.length) : r.drop k = r[k] :: r.drop (k + 1) := List.drop_eq_getElem_cons h

set_option maxRecDepth 100000 in
set_option maxHeartbeats 1000000 in
theorem askRDN_any {w : World} {v : Value} {r : List Mt.Av} (hv : IsAvs w v r) :
    Calls Tryz.prog 124 #[v] w fun e w' => e = .returned (.int .i64 (Mt.askR r)) ∧ Below w.heap.size w w' := by
  obtain ⟨a, cap, rfl, hn, hcap, hcell⟩ := hv
  by_cases h0 : r = []
  · subst h0
    have : Mt.askR [] = 2 := rfl
    rw [this]
    clear hcell hcap hn
    go_enter Tryz.func124, Tryz.ntmps124
    go_wp2_with fail
    go_ret
    exact ⟨rfl, Below.refl _ _⟩
  · obtain ⟨R, hR⟩ : ∃ R, Mt.askR r = R := ⟨_, rfl⟩
    have HR0 : Hid (Mt.askA r 0 r = R) := Lib.hid (by rw [← hR]; unfold Mt.askR; rw [if_neg h0])
    rw [hR]
    have hne : ((r.length : Int) == 0) = false := by
      have : r.length ≠ 0 := fun h => h0 (List.eq_nil_of_length_eq_zero h)
      simp; omega
    have HV : Hid (∀ k, k ≤ r.length → ∀ u, Below w.heap.size w u → IsAvs u (.slice a k cap) (r.take k)) := Lib.hid (by
      intro k hk u hu
      obtain ⟨a1, cap1, h1, h2⟩ := (IsAvs.below (v := .slice a r.length cap) ⟨a, cap, rfl, hn, hcap, hcell⟩ hu).take k hk
      cases h1; exact h2)
    have HX : Hid (∀ j (hj : j < r.length), ∃ b off, a = some ⟨b, off, none⟩ ∧ ∀ u, Below w.heap.size w u → u.cell? ⟨b, off + j * 2, none⟩ = some (.string (Mt.str r[j].1)) ∧ u.cell? ⟨b, off + j * 2 + 1, none⟩ = some (.string (Mt.str r[j].2))) := by
      intro j hj
      rcases hcell with h | ⟨b, off, h1, h2, h3⟩
      · subst h; simp at hj
      · exact ⟨b, off, h1, fun u hu => ⟨(hu.cell (p := ⟨b, off + j * 2, none⟩) h2).trans (h3 j hj).1, (hu.cell (p := ⟨b, off + j * 2 + 1, none⟩) h2).trans (h3 j hj).2⟩⟩
    have HC := Lib.hid hcap
    clear hcell h0 hR hcap
    go_enter Tryz.func124, Tryz.ntmps124
    go_wp2_with fail
    go_loopw [10] (fun i wr => ∃ (k : Nat), i = .int .i64 k ∧ k ≤ r.length ∧ k ≤ 8 ∧ Hid (Mt.askA r k (r.drop k) = R) ∧ Hid (∀ a ∈ r.take k, a.1.length ≤ 32) ∧ Hid (Below w.heap.size w wr))
      (fun i _ => r.length - (intOf i).toNat)
    case atStart => exact ⟨0, rfl, Nat.zero_le _, by omega, HR0, Lib.hid (by simp), Lib.hid (Below.refl _ _)⟩
    case round =>
      obtain ⟨k, rfl, hk, hk8, HR, HT, HB⟩ := hrel
      by_cases hlt : k < r.length
      · obtain ⟨b, off, rfl, hload⟩ := HX.out k hlt
        obtain ⟨hl0, hl1⟩ := hload wr HB.out
        have HD := Lib.hid (Mt.drop_av r k hlt)
        obtain ⟨av, hav⟩ : ∃ av, r[k] = av := ⟨_, rfl⟩
        rw [hav] at hl0 hl1 HD
        have hb0 := (Below.refl wr.heap.size wr).alloc (Nat.le_refl _) (.cells #[.string (Mt.str av.1), .string (Mt.str av.2)] 104)
        have HBx := Lib.hid (HB.out.trans (hb0.mono HB.out.size))
        obtain ⟨p1, p2⟩ := box2_of (heap_alloc_new wr (.cells #[.string (Mt.str av.1), .string (Mt.str av.2)] 104))
        have HP1 := Lib.hid p1
        have HAV := Lib.hid hav
        obtain ⟨z, hz⟩ : ∃ z, ((k : Int) == 8) = z := ⟨_, rfl⟩
        have hz8 : decide (k = 8) = z := by rw [← hz, Bool.eq_iff_iff]; simp; omega
        clear hb0 hav hload
        cases z
        · have hk8' : k ≠ 8 := by simpa using hz8
          have HTY := Lib.hid (type_any (Mt.str av.1) (wr.alloc (.cells #[.string (Mt.str av.1), .string (Mt.str av.2)] 104)))
          rw [Mt.str_data] at HTY
          cases hty : Mt.typL av.1 with
          | false =>
            rw [hty] at HTY
            have HF : Hid (R = 20) := Lib.hid (by rw [← HR.out, HD.out]; simp [Mt.askA, hk8', hty])
            clear hty hk8' hz8
            go_wp2_with fail
            refine (HTY.out).mono ?_
            rintro e w2 ⟨rfl, hb⟩
            have HB2 := Lib.hid (HBx.out.trans (hb.mono HBx.out.size))
            clear hb
            go_wp2_with fail
            go_ret
            exact ⟨Mt.ret_int (by rw [HF.out]; rfl), HB2.out⟩
          | true =>
            rw [hty] at HTY
            have htl := Mt.typ_len hty
            have HH := Lib.hid (fun (u : World) (hu : Below w.heap.size w u) => has_any (HV.out k hk u hu) (Mt.str av.1) (by rw [Mt.str_size]; omega) (fun a ha => by have := HT.out a ha; omega))
            rw [Mt.str_data] at HH
            have hkc : (k : Int) ≤ (cap : Int) := by have := HC.out; omega
            have hkc2 : k ≤ cap := by omega
            cases hhas : Mt.hasL (r.take k) av.1 with
            | true =>
              rw [hhas] at HH
              have HF : Hid (R = 21) := Lib.hid (by rw [← HR.out, HD.out]; simp [Mt.askA, hk8', hty, hhas])
              clear hty hk8' hz8 hhas htl
              go_wp2_with fail
              refine (HTY.out).mono ?_
              rintro e w2 ⟨rfl, hb⟩
              have HB2 := Lib.hid (HBx.out.trans (hb.mono HBx.out.size))
              have q1 := (hb.cell (p := ⟨wr.heap.size, 0, none⟩) (by simp)).trans HP1.out
              have q1' := (World.cell?_drew w2 ⟨wr.heap.size, 0, none⟩).trans q1
              clear hb
              go_upto_region 10 with fail
              go_region_law (first | (go_simp; go_at_call 88; go_must ((refine (HH.out _ HB2.out.drew).mono ?_); (rintro e w3 ⟨rfl, hb⟩); (have HB3 := Lib.hid (HB2.out.drew.trans (hb.mono HB2.out.size))); (clear hb))))
              all_goals
                go_wp2_with fail
                go_ret
                exact ⟨Mt.ret_int (by rw [HF.out]; rfl), HB3.out⟩
            | false =>
              rw [hhas] at HH
              have HF : Hid (Mt.askA r (k + 1) (r.drop (k + 1)) = R) := Lib.hid (by rw [← HR.out, HD.out]; simp [Mt.askA, hk8', hty, hhas])
              have HT2 : Hid (∀ a ∈ r.take (k + 1), a.1.length ≤ 32) := Lib.hid (by
                intro a ha
                rw [List.take_succ_eq_append_getElem hlt, List.mem_append, List.mem_singleton, HAV.out] at ha
                rcases ha with ha | rfl
                · exact HT.out a ha
                · exact htl)
              clear hty hz8 hhas htl
              go_wp2_with fail
              refine (HTY.out).mono ?_
              rintro e w2 ⟨rfl, hb⟩
              have HB2 := Lib.hid (HBx.out.trans (hb.mono HBx.out.size))
              have q1 := (hb.cell (p := ⟨wr.heap.size, 0, none⟩) (by simp)).trans HP1.out
              have q1' := (World.cell?_drew w2 ⟨wr.heap.size, 0, none⟩).trans q1
              clear hb
              go_upto_region 10 with fail
              go_region_law (first | (go_simp; go_at_call 88; go_must ((refine (HH.out _ HB2.out.drew).mono ?_); (rintro e w3 ⟨rfl, hb⟩); (have HB3 := Lib.hid (HB2.out.drew.trans (hb.mono HB2.out.size))); (clear hb))))
              all_goals
                go_wp2_with fail
                go_roundw
                case rel => exact ⟨k + 1, by go_num, by omega, by omega, HF, HT2, HB3⟩
                case measure => simp [intOf]; omega
        · have hk8' : k = 8 := by simpa using hz8
          have HF : Hid (R = 9) := Lib.hid (by rw [← HR.out, HD.out]; simp [Mt.askA, hk8'])
          clear hk8' hz8
          go_wp2_with fail
          go_ret
          exact ⟨Mt.ret_int (by rw [HF.out]; rfl), HBx.out⟩
      · have HF : Hid (R = 0) := Lib.hid (by rw [← HR.out, List.drop_eq_nil_of_le (by omega)]; simp [Mt.askA])
        go_wp2_with fail
        go_ret
        exact ⟨Mt.ret_int (by rw [HF.out]; rfl), HB.out⟩
end Go.Proofs.YtfogcgegllhmmaaGreatDoor
