/-
  What page.Answer comes to.
-/
import Derived.Test.YtmdhioifdnaajaaPgG
set_option linter.unusedVariables false
set_option linter.unusedSimpArgs false
namespace Go.Proofs.Ytmdhioifdnaajaa
open Go.RowKit Go.Shelf

theorem leaf_nd (w : World) (ok : Nat → Prop) (h : Nat) (t : Int) (s : List UInt8) (hs : s.length ≤ 140737488351232) : IsNd w ok (h + 1) (.agg #[.int .i64 t, .string (Mt.str s), .slice none 0 0]) (.mk t s []) :=
  ⟨none, 0, rfl, hs, by simp [Mt.Nd.kids], .inl rfl⟩
theorem ans_nd {w : World} {gb : Nat} {A C : List UInt8} (hA : A.length ≤ 140737488351232) (hC : C.length ≤ 140737488351232) (h : RowF gb 2 2 [(2, Mt.str A), (4, Mt.str C)] w) :
    IsNd w (fun _ => True) 2 (.agg #[.int .i64 48, .string ⟨#[]⟩, .slice (some ⟨gb, 0, none⟩) 2 2]) (.mk 48 [] [.mk 2 A [], .mk 4 C []]) := by
  obtain ⟨cur, h1, h2, h3⟩ := h
  have hc : ∀ j v, j < 6 → (flC [(2, Mt.str A), (4, Mt.str C)])[j]? = some v → w.cell? ⟨gb, j, none⟩ = some v := fun j v hj hv => by
    rw [cell_of_row w gb _ cur 62 (0, 0) h1, h3 j hj]; exact hv
  refine ⟨some ⟨gb, 0, none⟩, 2, rfl, by simp [Mt.Nd.data], by simp [Mt.Nd.kids], .inr ⟨gb, 0, rfl, trivial, fun i hi => ?_⟩⟩
  have hi2 : i < 2 := hi
  match i, hi2 with
  | 0, _ => exact ⟨_, _, _, hc 0 _ (by decide) rfl, hc 1 _ (by decide) rfl, hc 2 _ (by decide) rfl, leaf_nd w _ 0 2 A hA⟩
  | 1, _ => exact ⟨_, _, _, hc 3 _ (by decide) rfl, hc 4 _ (by decide) rfl, hc 5 _ (by decide) rfl, leaf_nd w _ 0 4 C hC⟩
set_option maxRecDepth 100000 in
set_option maxHeartbeats 1000000 in
theorem answer26_any (size : Int) (C : List UInt8) (hC : C.length ≤ 140737488351232) (h0 : -9223372036854775808 ≤ size) (h1 : size ≤ 9223372036854775807) (w : World) :
    Calls Try.prog 13 #[.int .i64 size, .string (Mt.str C)] w fun e w' => e = .returned (.string (Mt.str (Mt.ansL size C))) ∧ Below w.heap.size w w' := by
  have HZ := Lib.hid (fun u => isSize26_any size u)
  by_cases hr : 0 ≤ size ∧ size ≤ 2147483647
  · rw [decide_eq_true hr] at HZ
    have HI := Lib.hid (fun u => int_any size u h0 h1)
    have hal : (Mt.intL size).length ≤ 140737488351232 := by have := Mt.intL_small hr.1 hr.2; omega
    have hans : Mt.ansL size C = Mt.putD (.mk 48 [] [.mk 2 (Mt.intL size) [], .mk 4 C []]) := by unfold Mt.ansL; rw [if_pos hr]; rfl
    rw [hans]
    generalize Mt.intL size = A at *
    have HL2 := Lib.hid (fun u => leaf7_any 2 (Mt.str A) u)
    have HL4 := Lib.hid (fun u => leaf7_any 4 (Mt.str C) u)
    have HSQ : Hid (∀ u : World, Calls Try.prog 22 #[.int .i64 48, .slice (some ⟨u.heap.size, 0, none⟩) 2 2] (u.alloc (.cells #[.int .i64 2, .string (Mt.str A), .slice none 0 0, .int .i64 4, .string (Mt.str C), .slice none 0 0] 62)) fun e w' => ∃ gb, e = .returned (.agg #[.int .i64 48, .string ⟨#[]⟩, .slice (some ⟨gb, 0, none⟩) 2 2]) ∧ RowF gb 2 2 [(2, Mt.str A), (4, Mt.str C)] w' ∧ Below u.heap.size u w') := Lib.hid (fun u => (seqFlat_any (fl := [(2, Mt.str A), (4, Mt.str C)]) (n := 2) (b := u.heap.size) 48 rfl (by omega) (by omega) (heap_alloc_new u _)).mono fun e w' ⟨gb, e1, hr, hb, _⟩ => ⟨gb, e1, hr, ((Below.refl u.heap.size u).alloc (Nat.le_refl _) _).trans (hb.mono (by simp))⟩)
    have HPU : Hid (∀ (u : World) (gb : Nat), RowF gb 2 2 [(2, Mt.str A), (4, Mt.str C)] u → Calls Try.prog 21 #[.agg #[.int .i64 48, .string ⟨#[]⟩, .slice (some ⟨gb, 0, none⟩) 2 2]] u fun e w' => e = .returned (putV (Mt.putL 64 (.mk 48 [] [.mk 2 A [], .mk 4 C []]))) ∧ Below u.heap.size u w') := Lib.hid (fun u gb hr => Put_any _ _ u _ 2 (ans_nd hal hC hr))
    have HPD : Hid (Mt.putD (.mk 48 [] [.mk 2 A [], .mk 4 C []]) = match Mt.putL 64 (.mk 48 [] [.mk 2 A [], .mk 4 C []]) with | .ok s => s | .error _ => []) := Lib.hid rfl
    have HER := Lib.hid (fun e => Mt.putL_err 64 (.mk 48 [] [.mk 2 A [], .mk 4 C []]) e)
    generalize Mt.putD (.mk 48 [] [.mk 2 A [], .mk 4 C []]) = R at *
    generalize Mt.putL 64 (.mk 48 [] [.mk 2 A [], .mk 4 C []]) = X at *
    generalize Mt.str A = SA at *
    generalize Mt.str C = SC at *
    clear hal hans hr h0 h1 hC
    go_enter Try.func13, Try.ntmps13
    go_wp2_with fail
    refine (HZ.out _).mono ?_
    rintro e w1 ⟨rfl, rfl⟩
    go_wp2_with fail
    refine (HI.out _).mono ?_
    rintro e w2 ⟨rfl, hb2⟩
    have HB2 := Lib.hid hb2
    clear hb2
    go_wp2_with fail
    refine (HL2.out _).mono ?_
    rintro e w3 ⟨rfl, hb3⟩
    have HB3 := Lib.hid (HB2.out.trans (hb3.mono HB2.out.size))
    clear hb3
    go_wp2_with fail
    refine (HL4.out _).mono ?_
    rintro e w4 ⟨rfl, hb4⟩
    have HB4 := Lib.hid (HB3.out.trans (hb4.mono HB3.out.size))
    clear hb4
    go_wp2_with fail
    refine (HSQ.out _).mono ?_
    rintro e w5 ⟨gb, rfl, hrow, hb5⟩
    have HB5 := Lib.hid (HB4.out.trans (hb5.mono HB4.out.size))
    have HP5 := Lib.hid (HPU.out w5 gb hrow)
    clear hb5 hrow
    go_wp2_with fail
    refine (HP5.out).mono ?_
    rintro e w6 ⟨rfl, hb6⟩
    have HB6 := Lib.hid (HB5.out.trans (hb6.mono HB5.out.size))
    clear hb6
    cases X with
    | ok s =>
      unfold putV
      simp only
      go_wp2_with fail
      all_goals (go_ret; exact ⟨by rw [HPD.out]; rfl, HB6.out⟩)
    | error e =>
      have hne := HER.out e rfl
      have e1 : ((e : Int) == 0) = false := by rw [beq_eq_false_iff_ne]; omega
      have e2 : ((e : Int) != 0) = true := by simp; omega
      unfold putV
      simp only
      go_wp2_with fail
      all_goals (go_ret; exact ⟨by rw [HPD.out]; rfl, HB6.out⟩)
  · rw [decide_eq_false hr] at HZ
    have hans : Mt.ansL size C = [] := by unfold Mt.ansL; rw [if_neg hr]
    rw [hans]
    go_enter Try.func13, Try.ntmps13
    go_wp2_with fail
    refine (HZ.out _).mono ?_
    rintro e w1 ⟨rfl, rfl⟩
    go_wp2_with fail
    all_goals (go_ret; exact ⟨rfl, Below.refl _ _⟩)
end Go.Proofs.Ytmdhioifdnaajaa
