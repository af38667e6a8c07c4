/-
  What piecesOf comes to.
-/
import Derived.Test.YtnlbhmjgeedgpaaDoorFtD
set_option linter.unusedVariables false
set_option linter.unusedSimpArgs false
namespace Go.Proofs.YtnlbhmjgeedgpaaDoor
open Go.RowKit

theorem Mt.pcsF_skip {n i : Nat} {p : List UInt8} {r : List (List UInt8)} (h : p = []) (h2 : i = 0 ∨ i + 1 = n) : Mt.pcsF n i (p :: r) = Mt.pcsF n (i + 1) r := by
  conv => lhs; unfold Mt.pcsF
  rw [if_pos ⟨h, h2⟩]
theorem Mt.pcsF_take {n i : Nat} {p : List UInt8} {r : List (List UInt8)} (h : ¬ (p = [] ∧ (i = 0 ∨ i + 1 = n))) : Mt.pcsF n i (p :: r) = (if i = 0 then 0 else if i + 1 = n then 2 else 1, p) :: Mt.pcsF n (i + 1) r := by
  conv => lhs; unfold Mt.pcsF
  rw [if_neg h]
/-- What piecesOf answers. -/
def PcsP (w : World) (R : List Mt.Pc) (e : Ending) (w' : World) : Prop := Below w.heap.size w w' ∧ ∃ a c, e = .returned (.slice a R.length c) ∧ IsOwn 53 2 w.heap.size w' (.slice a R.length c) R.length (pcsC R)
set_option maxRecDepth 100000 in
set_option maxHeartbeats 1000000 in
theorem piecesOf10_any (ps : List (List UInt8)) (b off cap : Nat) (hn : ps.length ≤ 1000000) (w : World) (h : HasStrs w b off ps) :
    Calls Tryd.prog 75 #[.slice (some ⟨b, off, none⟩) ps.length cap] w (PcsP w (Mt.piecesL ps)) := by
  obtain ⟨i0, hi, hz0, hz1, hz2⟩ := info_parts Tryd.infoPc
  have HI := Lib.hid (And.intro hi (And.intro hz0 (And.intro hz1 hz2)))
  clear hi hz0 hz1 hz2
  obtain ⟨n, hnn⟩ : ∃ n, ps.length = n := ⟨_, rfl⟩
  obtain ⟨R, hR⟩ : ∃ R, Mt.piecesL ps = R := ⟨_, rfl⟩
  have HR0 : Hid ([] ++ Mt.pcsF n 0 (ps.drop 0) = R) := Lib.hid (by rw [← hR]; unfold Mt.piecesL; rw [hnn]; rfl)
  have HN := Lib.hid hnn
  have HS := Lib.hid h
  rw [hnn] at hn
  rw [hR, hnn]
  clear hR hnn h
  go_enter Tryd.func75, Tryd.ntmps75
  go_wp2_with fail
  go_loopw [3, 9] (fun v iv wr => ∃ (i : Nat) (q : List Mt.Pc) (a : Option Addr) (c : Nat), iv = .int .i64 (i : Int) ∧ v = .slice a q.length c ∧ i ≤ n ∧ q.length ≤ i ∧ Hid (IsOwn 53 2 w.heap.size wr (.slice a q.length c) q.length (pcsC q)) ∧ Hid (q ++ Mt.pcsF n i (ps.drop i) = R) ∧ Hid (Below w.heap.size w wr))
    (fun _ iv _ => n - (RowKit.intOf iv).toNat)
  case atStart => exact ⟨0, [], none, 0, rfl, rfl, Nat.zero_le _, Nat.zero_le _, Lib.hid (IsOwn.nil _ _ _ _), HR0, Lib.hid (Below.refl _ _)⟩
  case round =>
    obtain ⟨i, q, a, c, rfl, rfl, hin, hqi, HO, HR, HB⟩ := hrel
    by_cases hlt : i < n
    · have hil : i < ps.length := by rw [HN.out]; exact hlt
      have d1 : decide ((i : Int) < (n : Int)) = true := decide_eq_true (Int.ofNat_lt.2 hlt)
      have d2 : decide (i < n) = true := decide_eq_true hlt
      have hc0 := (HS.out.below HB.out).2 i hil
      have hdr : ps.drop i = ps[i] :: ps.drop (i + 1) := List.drop_eq_getElem_cons hil
      obtain ⟨p, hp⟩ : ∃ p, ps[i] = p := ⟨_, rfl⟩
      rw [hp] at hc0 hdr
      have hst := HR.out
      rw [hdr] at hst
      obtain ⟨z0, hz0⟩ : ∃ z, decide (i = 0) = z := ⟨_, rfl⟩
      obtain ⟨z1, hz1⟩ : ∃ z, decide (i + 1 = n) = z := ⟨_, rfl⟩
      have t0 : ((i : Int) == 0) = z0 := by rw [← hz0, Bool.eq_iff_iff]; simp
      have t1 : ((i : Int) == (n : Int) - 1) = z1 := by rw [← hz1, Bool.eq_iff_iff]; simp; omega
      have HPU := Lib.hid (fun (k : Int) => own_push (T := 22) (tx := 22) Tryd.underlying22 Tryd.underlying22 HI.out.1 HI.out.2.1 HI.out.2.2.1 HI.out.2.2.2 rfl HO.out HB.out.size (pcsC_one _) #[.int .i64 k, .string (Mt.str p)] rfl (by simp [Value.oneCell']) (by omega) (by omega))
      obtain ⟨s, hs⟩ : ∃ s, Mt.str p = s := ⟨_, rfl⟩
      obtain ⟨ze, hze⟩ : ∃ z, s.toList.isEmpty = z := ⟨_, rfl⟩
      have hzp : ze = decide (p = []) := by
        rw [← hze, ← hs, Bool.eq_iff_iff, ByteArray.toList_eq, Mt.str_data]; simp
      have HPE := Lib.hid hzp
      have HSP := Lib.hid hs
      rw [hs] at hc0 HPU
      clear hdr hp hzp hs
      have HST := Lib.hid hst
      have HZ0 := Lib.hid hz0
      have HZ1 := Lib.hid hz1
      clear hst hz0 hz1
      cases z0 <;> cases z1 <;> cases ze
      case false.false.false =>
        have HN1 : Hid ((q ++ [(1, p)]) ++ Mt.pcsF n (i + 1) (ps.drop (i + 1)) = R) := Lib.hid (by
          rw [← HST.out, Mt.pcsF_take (fun e => absurd e.1 (of_decide_eq_false HPE.out.symm)), if_neg (of_decide_eq_false HZ0.out), if_neg (of_decide_eq_false HZ1.out)]; simp)
        obtain ⟨a3, c3, w3, hrun, hown3, hb4⟩ := HPU.out 1
        have HO3 := Lib.hid hown3
        have HB3 := Lib.hid (HB.out.trans hb4)
        clear hown3 hb4
        go_wp2_with (refine wpList_append_run rfl _ _ 22 22 rfl _ _ rfl rfl hrun ?_)
        go_wp2_with fail
        go_roundw
        case rel => exact ⟨i + 1, q ++ [(1, p)], a3, c3, by go_num, by simp, hlt, by simp; omega, by have h := HO3.out; rw [List.length_append, List.length_singleton, pcsC_append]; rw [← HSP.out] at h; exact Lib.hid h, HN1, HB3⟩
        case measure => simp [RowKit.intOf]; omega
      case false.false.true =>
        have HN1 : Hid ((q ++ [(1, p)]) ++ Mt.pcsF n (i + 1) (ps.drop (i + 1)) = R) := Lib.hid (by
          rw [← HST.out, Mt.pcsF_take (fun e => e.2.elim (of_decide_eq_false HZ0.out) (of_decide_eq_false HZ1.out)), if_neg (of_decide_eq_false HZ0.out), if_neg (of_decide_eq_false HZ1.out)]; simp)
        obtain ⟨a3, c3, w3, hrun, hown3, hb4⟩ := HPU.out 1
        have HO3 := Lib.hid hown3
        have HB3 := Lib.hid (HB.out.trans hb4)
        clear hown3 hb4
        go_wp2_with (refine wpList_append_run rfl _ _ 22 22 rfl _ _ rfl rfl hrun ?_)
        go_wp2_with fail
        go_roundw
        case rel => exact ⟨i + 1, q ++ [(1, p)], a3, c3, by go_num, by simp, hlt, by simp; omega, by have h := HO3.out; rw [List.length_append, List.length_singleton, pcsC_append]; rw [← HSP.out] at h; exact Lib.hid h, HN1, HB3⟩
        case measure => simp [RowKit.intOf]; omega
      case false.true.false =>
        have HN1 : Hid ((q ++ [(2, p)]) ++ Mt.pcsF n (i + 1) (ps.drop (i + 1)) = R) := Lib.hid (by
          rw [← HST.out, Mt.pcsF_take (fun e => absurd e.1 (of_decide_eq_false HPE.out.symm)), if_neg (of_decide_eq_false HZ0.out), if_pos (of_decide_eq_true HZ1.out)]; simp)
        obtain ⟨a3, c3, w3, hrun, hown3, hb4⟩ := HPU.out 2
        have HO3 := Lib.hid hown3
        have HB3 := Lib.hid (HB.out.trans hb4)
        clear hown3 hb4
        go_wp2_with (refine wpList_append_run rfl _ _ 22 22 rfl _ _ rfl rfl hrun ?_)
        go_wp2_with fail
        go_roundw
        case rel => exact ⟨i + 1, q ++ [(2, p)], a3, c3, by go_num, by simp, hlt, by simp; omega, by have h := HO3.out; rw [List.length_append, List.length_singleton, pcsC_append]; rw [← HSP.out] at h; exact Lib.hid h, HN1, HB3⟩
        case measure => simp [RowKit.intOf]; omega
      case false.true.true =>
        have HN1 : Hid (q ++ Mt.pcsF n (i + 1) (ps.drop (i + 1)) = R) := Lib.hid (by
          rw [← HST.out, Mt.pcsF_skip (of_decide_eq_true HPE.out.symm) (.inr (of_decide_eq_true HZ1.out))])
        go_wp2_with fail
        go_roundw
        case rel => exact ⟨i + 1, q, a, c, by go_num, rfl, hlt, by omega, HO, HN1, HB⟩
        case measure => simp [RowKit.intOf]; omega
      case true.false.false =>
        have HN1 : Hid ((q ++ [(0, p)]) ++ Mt.pcsF n (i + 1) (ps.drop (i + 1)) = R) := Lib.hid (by
          rw [← HST.out, Mt.pcsF_take (fun e => absurd e.1 (of_decide_eq_false HPE.out.symm)), if_pos (of_decide_eq_true HZ0.out)]; simp)
        obtain ⟨a3, c3, w3, hrun, hown3, hb4⟩ := HPU.out 0
        have HO3 := Lib.hid hown3
        have HB3 := Lib.hid (HB.out.trans hb4)
        clear hown3 hb4
        go_wp2_with (refine wpList_append_run rfl _ _ 22 22 rfl _ _ rfl rfl hrun ?_)
        go_wp2_with fail
        go_roundw
        case rel => exact ⟨i + 1, q ++ [(0, p)], a3, c3, by go_num, by simp, hlt, by simp; omega, by have h := HO3.out; rw [List.length_append, List.length_singleton, pcsC_append]; rw [← HSP.out] at h; exact Lib.hid h, HN1, HB3⟩
        case measure => simp [RowKit.intOf]; omega
      case true.false.true =>
        have HN1 : Hid (q ++ Mt.pcsF n (i + 1) (ps.drop (i + 1)) = R) := Lib.hid (by
          rw [← HST.out, Mt.pcsF_skip (of_decide_eq_true HPE.out.symm) (.inl (of_decide_eq_true HZ0.out))])
        go_wp2_with fail
        go_roundw
        case rel => exact ⟨i + 1, q, a, c, by go_num, rfl, hlt, by omega, HO, HN1, HB⟩
        case measure => simp [RowKit.intOf]; omega
      case true.true.false =>
        have HN1 : Hid ((q ++ [(0, p)]) ++ Mt.pcsF n (i + 1) (ps.drop (i + 1)) = R) := Lib.hid (by
          rw [← HST.out, Mt.pcsF_take (fun e => absurd e.1 (of_decide_eq_false HPE.out.symm)), if_pos (of_decide_eq_true HZ0.out)]; simp)
        obtain ⟨a3, c3, w3, hrun, hown3, hb4⟩ := HPU.out 0
        have HO3 := Lib.hid hown3
        have HB3 := Lib.hid (HB.out.trans hb4)
        clear hown3 hb4
        go_wp2_with (refine wpList_append_run rfl _ _ 22 22 rfl _ _ rfl rfl hrun ?_)
        go_wp2_with fail
        go_roundw
        case rel => exact ⟨i + 1, q ++ [(0, p)], a3, c3, by go_num, by simp, hlt, by simp; omega, by have h := HO3.out; rw [List.length_append, List.length_singleton, pcsC_append]; rw [← HSP.out] at h; exact Lib.hid h, HN1, HB3⟩
        case measure => simp [RowKit.intOf]; omega
      case true.true.true =>
        have HN1 : Hid (q ++ Mt.pcsF n (i + 1) (ps.drop (i + 1)) = R) := Lib.hid (by
          rw [← HST.out, Mt.pcsF_skip (of_decide_eq_true HPE.out.symm) (.inl (of_decide_eq_true HZ0.out))])
        go_wp2_with fail
        go_roundw
        case rel => exact ⟨i + 1, q, a, c, by go_num, rfl, hlt, by omega, HO, HN1, HB⟩
        case measure => simp [RowKit.intOf]; omega
    · have HR1 : Hid (R = q) := Lib.hid (by rw [← HR.out, List.drop_eq_nil_of_le (by have e := HN.out; omega)]; simp [Mt.pcsF])
      have d1 : decide ((i : Int) < (n : Int)) = false := decide_eq_false (fun h => hlt (Int.ofNat_lt.1 h))
      have d2 : decide (i < n) = false := decide_eq_false hlt
      go_wp2_with fail
      go_ret
      rw [HR1.out]
      exact ⟨HB.out, a, c, rfl, HO.out⟩
end Go.Proofs.YtnlbhmjgeedgpaaDoor
