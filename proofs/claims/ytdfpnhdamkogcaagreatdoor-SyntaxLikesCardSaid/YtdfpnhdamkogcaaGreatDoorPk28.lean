/-
  Some texts of one proof, one behind the other.
-/
import Derived.Deep.RegionLaw
import Derived.Deep.RegionHeld3
import Derived.Deep.Cut
import Derived.Deep.DeepCutAuto
import Derived.Test.YtdfpnhdamkogcaaGreatDoorPk17
import Derived.Test.YtdfpnhdamkogcaaGreatDoorPk27
set_option linter.unusedVariables false
set_option linter.unusedSimpArgs false

/-
  What has pieces.
-/
namespace Go.Proofs.YtdfpnhdamkogcaaGreatDoor
open Go.RowKit Go.Lib

theorem cut_len (s t : List UInt8) : (cut s t).2.1.length ≤ s.length := by
  unfold cut
  split
  · simp
  · simp
theorem trimP_len (s t : List UInt8) : (trimPrefix s t).length ≤ s.length := by
  unfold trimPrefix
  split <;> simp
theorem Mt.stepL_len (s : List UInt8) (k : Int) (t : List UInt8) : (Mt.stepL s k t).1.length ≤ s.length := by
  unfold Mt.stepL
  split
  · exact trimP_len s t
  · split
    · simp
    · exact cut_len s t
theorem behind_any (s : List UInt8) (k : Int) (t : List UInt8) (hs : s.length < 4294967281) (w : World) (hL : LaidY w) : Calls Tryz.prog 53 #[.string (Mt.str s), .int .i64 k, .string (Mt.str t)] w fun e w' => e = .returned (.tuple #[.string (Mt.str (Mt.stepL s k t).1), .bool (Mt.stepL s k t).2]) ∧ Below w.heap.size w w' := by
  by_cases h0 : k = 0
  · subst h0
    have H := Lib.hid (sy_cutp (Mt.str s) (Mt.str t) w)
    rw [Mt.str_data, Mt.str_data] at H
    have e : Mt.stepL s 0 t = (trimPrefix s t, hasPrefix s t) := rfl
    rw [e]
    generalize Mt.str (trimPrefix s t) = S1 at *
    generalize hasPrefix s t = b at *
    generalize Mt.str s = S at *
    generalize Mt.str t = T at *
    clear e hs
    go_enter Tryz.func53, Tryz.ntmps53
    go_wp2_with fail
    refine (H.out).mono ?_
    rintro e w1 ⟨rfl, rfl⟩
    go_wp2_with fail
    go_ret2
    exact ⟨rfl, Below.refl _ _⟩
  have n0 : (k == 0) = false := beq_eq_false_iff_ne.2 h0
  by_cases h2 : k = 2
  · subst h2
    have H := Lib.hid (sy_hs (Mt.str s) (Mt.str t) (by rw [Mt.str_size]; omega) w)
    rw [Mt.str_data, Mt.str_data] at H
    have e : Mt.stepL s 2 t = ([], hasSuffix s t) := rfl
    have e2 : Mt.str [] = ⟨#[]⟩ := rfl
    rw [e]
    dsimp only
    rw [e2]
    generalize hasSuffix s t = b at *
    generalize Mt.str s = S at *
    generalize Mt.str t = T at *
    clear e e2 hs h0
    go_enter Tryz.func53, Tryz.ntmps53
    go_wp2_with fail
    refine (H.out).mono ?_
    rintro e w1 ⟨rfl, rfl⟩
    go_wp2_with fail
    go_ret2
    exact ⟨rfl, Below.refl _ _⟩
  · have n2 : (k == 2) = false := beq_eq_false_iff_ne.2 h2
    have H := Lib.hid (sy_cut (Mt.str s) (Mt.str t) (by rw [Mt.str_size]; exact hs) hL)
    rw [Mt.str_data, Mt.str_data] at H
    have e : Mt.stepL s k t = ((cut s t).2.1, (cut s t).2.2) := by unfold Mt.stepL; rw [if_neg h0, if_neg h2]
    rw [e]
    generalize Mt.str (cut s t).1 = S1 at *
    generalize Mt.str (cut s t).2.1 = S2 at *
    generalize (cut s t).2.2 = b at *
    generalize Mt.str s = S at *
    generalize Mt.str t = T at *
    clear e hs h0 h2
    go_enter Tryz.func53, Tryz.ntmps53
    go_wp2_with fail
    refine (H.out).mono ?_
    rintro e w1 ⟨rfl, hb⟩
    have HB := Lib.hid hb
    clear hb
    go_wp2_with fail
    go_ret2
    exact ⟨rfl, HB.out⟩
theorem itself_any (s : ByteArray) (w : World) : Calls Tryz.prog 32 #[.string s] w fun e w' => e = .returned (.string s) ∧ w = w' := by
  go_enter Tryz.func32, Tryz.ntmps32
  go_wp2; go_ret; exact ⟨rfl, rfl⟩
theorem enters_fold : ∀ args w, (callFunc 31 args).run Tryz.prog w = .ok (.enter 31 args) w := enters_of Tryz.func31 (by kernel_rfl) rfl
theorem enters_itself : ∀ args w, (callFunc 32 args).run Tryz.prog w = .ok (.enter 32 args) w := enters_of Tryz.func32 (by kernel_rfl) rfl
theorem Mt.hasPs_cons (f : List UInt8 → List UInt8) (s : List UInt8) (p : Mt.Pc) (r : List Mt.Pc) : Mt.hasPs f s (p :: r) = if (Mt.stepL s p.1 (f p.2)).2 then Mt.hasPs f (Mt.stepL s p.1 (f p.2)).1 r else false := rfl
set_option maxRecDepth 100000 in
set_option maxHeartbeats 1000000 in
/-- The pieces as a function reads them. -/
theorem hasP_any (F : Nat) (f : List UInt8 → List UInt8) (hen : ∀ args w, (callFunc F args).run Tryz.prog w = .ok (.enter F args) w) (hf : ∀ (t : List UInt8) (u : World), t.length ≤ 140737488351232 → Calls Tryz.prog F #[.string (Mt.str t)] u fun e w' => e = .returned (.string (Mt.str (f t))) ∧ Below u.heap.size u w')
    {w : World} {v : Value} {ps : List Mt.Pc} (h : IsPcs w v ps) (hn : ps.length ≤ 9223372036854775807) (ht : ∀ p ∈ ps, p.2.length ≤ 140737488351232) (s : List UInt8) (hs : s.length < 4294967281) (hL : LaidY w) :
    Calls Tryz.prog 30 #[.string (Mt.str s), v, .func (.func F) #[] #[]] w fun e w' => e = .returned (.bool (Mt.hasPs f s ps)) ∧ Below w.heap.size w w' := by
  obtain ⟨a, cap, rfl, HP⟩ := h
  have HN := Lib.hid hn
  have HTT := Lib.hid ht
  have HF := Lib.hid hf
  have HL := Lib.hid (fun u (hu : Below w.heap.size w u) => hL.below hu)
  obtain ⟨R, hR⟩ : ∃ R, Mt.hasPs f s ps = R := ⟨_, rfl⟩
  have HF0 : Hid (Mt.hasPs f s (ps.drop 0) = R ∧ s.length < 4294967281 ∧ Below w.heap.size w w) := Lib.hid ⟨hR, hs, Below.refl _ _⟩
  obtain ⟨n, hnn⟩ : ∃ n, ps.length = n := ⟨_, rfl⟩
  have HLN := Lib.hid hnn
  rw [hR, hnn]
  have hn0 : n ≤ 9223372036854775807 := by omega
  clear hR hnn hn ht hf hs hL
  go_enter Tryz.func30, Tryz.ntmps30
  go_wp2_with fail
  go_loopw [12, 0] (fun iv sv wr => ∃ (i : Nat) (s : List UInt8), i ≤ n ∧ iv = .int .i64 (i : Int) ∧ sv = .string (Mt.str s) ∧ Hid (Mt.hasPs f s (ps.drop i) = R ∧ s.length < 4294967281 ∧ Below w.heap.size w wr)) (fun iv _ _ => n - (intOf iv).toNat)
  case atStart => exact ⟨0, s, Nat.zero_le _, rfl, rfl, HF0⟩
  case round =>
    obtain ⟨i, s, hi, rfl, rfl, HR⟩ := hrel
    by_cases hlt : i < n
    · have hip : i < ps.length := by rw [HLN.out]; exact hlt
      obtain ⟨b, off, e0, hbl, c0, c1⟩ := HP.out i hip
      obtain ⟨k, t, hkt⟩ : ∃ k t, ps[i] = (k, t) := ⟨_, _, rfl⟩
      have hst := HR.out.1
      have htl := HTT.out _ (List.getElem_mem hip)
      rw [List.drop_eq_getElem_cons hip, Mt.hasPs_cons, hkt] at hst
      rw [hkt] at c0 c1 htl
      have x0 := (HR.out.2.2.cell (p := ⟨b, off + i * 2, none⟩) hbl).trans c0
      have x1 := (HR.out.2.2.cell (p := ⟨b, off + i * 2 + 1, none⟩) hbl).trans c1
      dsimp only at x0 x1 hst htl
      have HB := Lib.hid HR.out.2.2
      have HS := Lib.hid HR.out.2.1
      have HE := Lib.hid hst
      have HSL := Lib.hid (Nat.lt_of_le_of_lt (Mt.stepL_len s k (f t)) HR.out.2.1)
      have HC1 := Lib.hid (fun u => HF.out t u htl)
      have HC2 := Lib.hid (fun u (hu : Below w.heap.size w u) => behind_any s k (f t) HS.out u (HL.out u hu))
      subst e0
      have d1 : decide ((i : Int) < (n : Int)) = true := decide_eq_true (by omega)
      have d2 : decide (i < n) = true := decide_eq_true hlt
      have i0 : (0 : Int) ≤ (i : Int) := by omega
      clear hbl c0 c1 hkt hst HR hip htl
      generalize Mt.str (f t) = FT at *
      generalize Mt.str t = T at *
      generalize (Mt.stepL s k (f t)).1 = s2 at *
      generalize (Mt.stepL s k (f t)).2 = ok at *
      generalize hS : Mt.str s = S at *
      clear hS
      have HA := Lib.hid (HB.out.trans (((Below.refl wr.heap.size wr).alloc (Nat.le_refl _) (.cells #[.int .i64 k, .string T] 38)).mono HB.out.size))
      have HX := Lib.hid (heap_alloc_new wr (.cells #[.int .i64 k, .string T] 38))
      have HXK : Hid (∀ u, Below (wr.alloc (.cells #[.int .i64 k, .string T] 38)).heap.size (wr.alloc (.cells #[.int .i64 k, .string T] 38)) u → u.cell? ⟨wr.heap.size, 0, none⟩ = some (.int .i64 k) ∧ u.cell? ⟨wr.heap.size, 1, none⟩ = some (.string T)) := Lib.hid (fun u hu => by
        have hrow := (hu.block wr.heap.size (by simp)).trans HX.out
        exact ⟨by rw [cell_of_row _ _ _ _ _ _ hrow]; rfl, by rw [cell_of_row _ _ _ _ _ _ hrow]; rfl⟩)
      obtain ⟨p0, p1⟩ := HXK.out _ (Below.refl _ _)
      go_upto_region 5 with fail
      clear x0 x1
      go_region_held3 (fun w' => w'.cell? ⟨wr.heap.size, 0, none⟩ = some (.int .i64 k) ∧ w'.cell? ⟨wr.heap.size, 1, none⟩ = some (.string T))
        (first
          | go_keep
          | exact ⟨q0, q1⟩)
        (first
          | (go_at_fn F; refine (HC1.out _).mono ?_; rintro e w3 ⟨rfl, hb⟩; have HB3 := Lib.hid (HA.out.drew.trans (hb.mono HA.out.drew.size)); have HXB3 := Lib.hid ((Below.refl (wr.alloc (.cells #[.int .i64 k, .string T] 38)).heap.size (wr.alloc (.cells #[.int .i64 k, .string T] 38))).drew.trans (hb.mono (Nat.le_refl _))); have q := HXK.out _ HXB3.out; have q0 := q.1; have q1 := q.2; clear hb q)
          | (go_at_call 53; refine (HC2.out _ HB3.out).mono ?_; rintro e w4 ⟨rfl, hb⟩; have HB4 := Lib.hid (HB3.out.trans (hb.mono HB3.out.size)); have q := HXK.out _ (HXB3.out.trans (hb.mono HXB3.out.size)); have q0 := q.1; have q1 := q.2; clear hb q))
      cases ok with
      | true =>
        have HE2 : Hid (Mt.hasPs f s2 (ps.drop (i + 1)) = R) := Lib.hid HE.out
        go_wp2_with fail
        go_roundw
        case rel => exact ⟨i + 1, s2, by omega, by go_num, rfl, Lib.hid ⟨HE2.out, HSL.out, HB4.out⟩⟩
        case measure => simp [intOf]; omega
      | false =>
        have HE2 : Hid (false = R) := Lib.hid HE.out
        go_wp2_with fail
        go_ret
        exact ⟨Mt.ret_bool HE2.out, HB4.out⟩
    · obtain rfl : i = n := by omega
      have d1 : decide ((i : Int) < (i : Int)) = false := decide_eq_false (by omega)
      have d2 : decide (i < i) = false := decide_eq_false (by omega)
      have HRT : Hid (true = R) := Lib.hid (by
        rw [← HR.out.1, List.drop_eq_nil_of_le (by rw [HLN.out]; exact Nat.le_refl _)]; rfl)
      have HB := Lib.hid HR.out.2.2
      clear HR hlt
      go_wp2_with fail
      go_ret
      exact ⟨Mt.ret_bool HRT.out, HB.out⟩
/-- What has pieces, folded; as they are. -/
theorem has_fold {w : World} {v : Value} {ps : List Mt.Pc} (h : IsPcs w v ps) (hn : ps.length ≤ 9223372036854775807) (ht : ∀ p ∈ ps, p.2.length ≤ 140737488351232) (s : List UInt8) (hs : s.length < 4294967281) (hL : LaidY w) :
    Calls Tryz.prog 30 #[.string (Mt.str s), v, .func (.func 31) #[] #[]] w fun e w' => e = .returned (.bool (Mt.hasPs Mt.foldL s ps)) ∧ Below w.heap.size w w' :=
  hasP_any 31 Mt.foldL enters_fold (fun t u h => by
    have := fold_any (Mt.str t) u (by rw [Mt.str_size]; exact h)
    rw [Mt.str_data] at this
    exact this) h hn ht s hs hL
theorem has_id {w : World} {v : Value} {ps : List Mt.Pc} (h : IsPcs w v ps) (hn : ps.length ≤ 9223372036854775807) (ht : ∀ p ∈ ps, p.2.length ≤ 140737488351232) (s : List UInt8) (hs : s.length < 4294967281) (hL : LaidY w) :
    Calls Tryz.prog 30 #[.string (Mt.str s), v, .func (.func 32) #[] #[]] w fun e w' => e = .returned (.bool (Mt.hasPs id s ps)) ∧ Below w.heap.size w w' :=
  hasP_any 32 id enters_itself (fun t u _ => (itself_any (Mt.str t) u).mono fun e w' ⟨h1, h2⟩ => ⟨h1, by rw [← h2]; exact Below.refl _ _⟩) h hn ht s hs hL
end Go.Proofs.YtdfpnhdamkogcaaGreatDoor
