/-
  Some texts of one proof, one behind the other.
-/
import Derived.Sort.Walk0
import Derived.Test.YtkinemlgifeimaaPk27
set_option linter.unusedVariables false
set_option linter.unusedSimpArgs false

/-
  A name put into a list of names that rises, as the document has it.
-/
namespace Go.Proofs.Ytkinemlgifeimaa
open Go.RowKit

namespace Mt
def putStep (t : List UInt8) (p : List (List UInt8) × Bool) (x : List UInt8) : List (List UInt8) × Bool := if (!p.2 && Op.bytesLess t x) = true then (p.1 ++ [t] ++ [x], true) else (p.1 ++ [x], p.2)
def putF (t : List UInt8) (l : List (List UInt8)) : List (List UInt8) × Bool := l.foldl (putStep t) ([], false)
def putL (t : List UInt8) (l : List (List UInt8)) : List (List UInt8) := if t ∈ l then l else if (putF t l).2 then (putF t l).1 else (putF t l).1 ++ [t]
theorem putF_snoc (t : List UInt8) (l : List (List UInt8)) (x : List UInt8) : putF t (l ++ [x]) = putStep t (putF t l) x := by simp [putF]
theorem putF_len (t : List UInt8) (l : List (List UInt8)) : (putF t l).1.length = l.length + (if (putF t l).2 then 1 else 0) := by
  unfold putF
  suffices h : ∀ (l : List (List UInt8)) (p : List (List UInt8) × Bool) (m : Nat), p.1.length = m + (if p.2 then 1 else 0) → (l.foldl (putStep t) p).1.length = m + l.length + (if (l.foldl (putStep t) p).2 then 1 else 0) by
    have := h l ([], false) 0 (by simp)
    simpa using this
  intro l
  induction l with
  | nil => intro p m h; exact h
  | cons x r ih =>
    intro p m h
    rw [List.foldl_cons, ih (putStep t p x) (m + 1) ?_]
    · simp only [List.length_cons]; omega
    · unfold putStep
      by_cases hc : (!p.2 && Op.bytesLess t x) = true
      · rw [if_pos hc]
        have hp : p.2 = false := by simpa using (Bool.and_eq_true_iff.1 hc).1
        rw [hp] at h
        simp only [List.length_append, List.length_cons, List.length_nil] at *
        simp at h ⊢; omega
      · rw [if_neg hc]
        simp only [List.length_append, List.length_cons, List.length_nil]; omega
end Mt
set_option maxRecDepth 100000 in
set_option maxHeartbeats 4000000 in
theorem put13_any {l : List (List UInt8)} {w : World} {v : Value} (h : IsNms w v l) (t : List UInt8) (hn : l.length ≤ 4398046511104) :
    Calls Try.prog 41 #[v, .string (Mt.str t)] w fun e w' => ∃ a n c, e = .returned (.slice a n c) ∧ IsNms w' (.slice a n c) (Mt.putL t l) ∧ Below w.heap.size w w' := by
  have HV := Lib.hid h
  obtain ⟨x, xc, rfl, hxc, HX⟩ := h
  obtain ⟨i0, hi, hz0, hz1, hz2⟩ := info_parts Try.infoStr13
  have HI := Lib.hid (And.intro hi (And.intro hz0 (And.intro hz1 hz2)))
  obtain ⟨n, hn1⟩ : ∃ n, l.length = n := ⟨_, rfl⟩
  have HN := Lib.hid hn1
  rw [hn1] at hxc hn HV ⊢
  have HT := Lib.hid (fun p => And.intro (Mt.str_beq p t) (show Op.bytesLess (Mt.str t).toList (Mt.str p).toList = Op.bytesLess t p by rw [ByteArray.toList_eq, ByteArray.toList_eq, Mt.str_data, Mt.str_data]))
  obtain ⟨T, hT⟩ : ∃ T, Mt.str t = T := ⟨_, rfl⟩
  have HTT := Lib.hid hT
  rw [hT] at HT ⊢
  clear hn1 hi hz0 hz1 hz2 hT
  go_enter Try.func41, Try.ntmps41
  go_wp2_with fail
  go_loopw [5, 6, 11] (fun ov dv iv wr => ∃ (i : Nat) (a : Option Addr) (c : Nat), i ≤ n ∧ iv = .int .i64 (i : Int) ∧ dv = .bool (Mt.putF t (l.take i)).2 ∧ ov = .slice a (Mt.putF t (l.take i)).1.length c ∧ Hid (t ∉ l.take i) ∧ Hid (IsOwn 9 1 w.heap.size wr (.slice a (Mt.putF t (l.take i)).1.length c) (Mt.putF t (l.take i)).1.length (nms (Mt.putF t (l.take i)).1)) ∧ Hid (Below w.heap.size w wr)) (fun _ _ iv _ => n - (intOf iv).toNat)
  case atStart => exact ⟨0, none, 0, Nat.zero_le _, rfl, by simp [Mt.putF], by simp [Mt.putF], Lib.hid (by simp), Lib.hid (by simpa [Mt.putF, nms] using IsOwn.nil 9 1 w.heap.size w), Lib.hid (Below.refl _ _)⟩
  case round =>
    obtain ⟨i, a, c, hi, rfl, rfl, rfl, HNI, HO, HB⟩ := hrel
    have hfl := Mt.putF_len t (l.take i)
    rw [List.length_take, HN.out] at hfl
    obtain ⟨o, ho⟩ : ∃ o, (Mt.putF t (l.take i)).1 = o := ⟨_, rfl⟩
    obtain ⟨d, hd⟩ : ∃ d, (Mt.putF t (l.take i)).2 = d := ⟨_, rfl⟩
    rw [ho, hd] at hfl
    have HOD : Hid (Mt.putF t (l.take i) = (o, d)) := Lib.hid (by rw [← ho, ← hd])
    rw [ho] at HO
    rw [ho, hd]
    obtain ⟨k, hk⟩ : ∃ k, o.length = k := ⟨_, rfl⟩
    have HKL := Lib.hid hk
    rw [hk] at hfl HO ⊢
    have hkb : k ≤ n + 1 := by
      have : (if d = true then 1 else 0) ≤ 1 := by split <;> omega
      omega
    clear ho hd hk hfl
    by_cases hlt : i < n
    · have e1 : decide ((i : Int) < (n : Int)) = true := decide_eq_true (by omega)
      have e2 : decide (i < n) = true := decide_eq_true hlt
      have hi1 : i < l.length := by rw [HN.out]; exact hlt
      obtain ⟨b1, o1, e3, hb1, hc1⟩ := HX.out i hi1
      subst e3
      have x0 := (HB.out.cell (p := ⟨b1, o1 + i, none⟩) hb1).trans hc1
      have j0 : (0 : Int) ≤ (i : Int) := by omega
      have j1 : (i : Int) < (n : Int) := by omega
      have t1 := List.take_succ_eq_append_getElem hi1
      have hmem := List.getElem_mem hi1
      obtain ⟨e5, e6⟩ := HT.out l[i]
      have HST : Hid (Mt.putF t (l.take (i + 1)) = Mt.putStep t (o, d) l[i]) := Lib.hid (by rw [t1, Mt.putF_snoc, HOD.out])
      have HNS : Hid (l[i] ≠ t → t ∉ l.take (i + 1)) := Lib.hid (fun hne => by
        rw [t1, List.mem_append, List.mem_singleton]
        rintro (h | h)
        · exact HNI.out h
        · exact hne h.symm)
      generalize l[i] = p at *
      obtain ⟨PB, hPB⟩ : ∃ x, Mt.str p = x := ⟨_, rfl⟩
      rw [hPB] at e5 e6 x0
      have HPB := Lib.hid hPB
      clear hc1 hb1 t1 hi1 hPB
      by_cases hpt : p = t
      · rw [decide_eq_true hpt] at e5
        have HE : Hid (Mt.putL t l = l) := Lib.hid (by unfold Mt.putL; rw [if_pos (hpt ▸ hmem)])
        clear hpt hmem
        go_wp2_with fail
        go_ret
        exact ⟨_, _, _, rfl, by rw [HE.out]; exact HV.out.below HB.out, HB.out⟩
      · rw [decide_eq_false hpt] at e5
        have HNI2 := Lib.hid (HNS.out hpt)
        clear hpt hmem HNS
        have he : ∀ (O : List (List UInt8)) (Y : List UInt8) (YB : ByteArray), YB = Mt.str Y → nms O ++ (#[.string YB] : Array Value).toList = nms (O ++ [Y]) := fun O Y YB h => by rw [h]; simp [nms]
        obtain ⟨lt, hlt2⟩ : ∃ b, Op.bytesLess t p = b := ⟨_, rfl⟩
        rw [hlt2] at e6
        by_cases hc : d = false ∧ lt = true
        · obtain ⟨rfl, rfl⟩ := hc
          have HST2 : Hid (Mt.putF t (l.take (i + 1)) = (o ++ [t] ++ [p], true)) := Lib.hid (by rw [HST.out]; unfold Mt.putStep; rw [hlt2]; rfl)
          obtain ⟨a3, c3, w5, hrun, hown, hb5⟩ := own_push (T := 29) (tx := 29) Try.underlying29 Try.underlying29 HI.out.1 HI.out.2.1 HI.out.2.2.1 HI.out.2.2.2 rfl HO.out HB.out.size (nms_one _) #[.string T] rfl (by simp [Value.oneCell']) (by omega) (by omega)
          rw [he o t T HTT.out.symm] at hown
          have hB5 := HB.out.trans hb5
          obtain ⟨a4, c4, w6, hrun2, hown2, hb6⟩ := own_push (T := 29) (tx := 29) Try.underlying29 Try.underlying29 HI.out.1 HI.out.2.1 HI.out.2.2.1 HI.out.2.2.2 rfl hown hB5.size (nms_one _) #[.string PB] rfl (by simp [Value.oneCell']) (by omega) (by omega)
          rw [he (o ++ [t]) p PB HPB.out.symm] at hown2
          have HO6 := Lib.hid hown2
          have HB6 := Lib.hid (hB5.trans hb6)
          have hl6 : (o ++ [t] ++ [p]).length = k + 1 + 1 := by simp [HKL.out]
          clear hown hown2 hb5 hb6 hB5 he hlt2 HST
          go_upto_region 11 with (with_reducible refine oper_append13' (.tmp 26) (.tmp 28) 29 29 ?_ _ _ ?_ ?_ _ ?_ hrun ?_; rfl; simp [go_sem]; simp [go_sem]; with_reducible rfl)
          clear hrun x0
          go_upto_region 12 with (with_reducible refine oper_append13' (.tmp 30) (.tmp 32) 29 29 ?_ _ _ ?_ ?_ _ ?_ hrun2 ?_; rfl; simp [go_sem]; simp [go_sem]; with_reducible rfl)
          clear hrun2
          go_wp2_with fail
          go_roundw
          case rel => exact ⟨i + 1, a4, c4, by omega, by go_num, by rw [HST2.out], by rw [HST2.out, hl6], HNI2, by rw [HST2.out, hl6]; exact HO6, HB6⟩
          case measure => simp [intOf]; omega
        · have HST2 : Hid (Mt.putF t (l.take (i + 1)) = (o ++ [p], d)) := Lib.hid (by
            rw [HST.out]; unfold Mt.putStep; rw [hlt2]
            cases d with
            | true => rfl
            | false => cases lt with
              | true => exact absurd ⟨rfl, rfl⟩ hc
              | false => rfl)
          obtain ⟨a4, c4, w6, hrun2, hown2, hb6⟩ := own_push (T := 29) (tx := 29) Try.underlying29 Try.underlying29 HI.out.1 HI.out.2.1 HI.out.2.2.1 HI.out.2.2.2 rfl HO.out HB.out.size (nms_one _) #[.string PB] rfl (by simp [Value.oneCell']) (by omega) (by omega)
          rw [he o p PB HPB.out.symm] at hown2
          have HO6 := Lib.hid hown2
          have HB6 := Lib.hid (HB.out.trans hb6)
          have hl6 : (o ++ [p]).length = k + 1 := by simp [HKL.out]
          clear hown2 hb6 he hlt2 HST
          cases d with
          | true =>
            go_upto_region 12 with (with_reducible refine oper_append13' (.tmp 30) (.tmp 32) 29 29 ?_ _ _ ?_ ?_ _ ?_ hrun2 ?_; rfl; simp [go_sem]; simp [go_sem]; with_reducible rfl)
            clear hrun2
            go_wp2_with fail
            go_roundw
            case rel => exact ⟨i + 1, a4, c4, by omega, by go_num, by rw [HST2.out], by rw [HST2.out, hl6], HNI2, by rw [HST2.out, hl6]; exact HO6, HB6⟩
            case measure => simp [intOf]; omega
          | false =>
            have hlf : lt = false := by
              cases lt with
              | true => exact absurd ⟨rfl, rfl⟩ hc
              | false => rfl
            subst hlf
            clear hc
            go_upto_region 12 with (with_reducible refine oper_append13' (.tmp 30) (.tmp 32) 29 29 ?_ _ _ ?_ ?_ _ ?_ hrun2 ?_; rfl; simp [go_sem]; simp [go_sem]; with_reducible rfl)
            clear hrun2
            go_wp2_with fail
            go_roundw
            case rel => exact ⟨i + 1, a4, c4, by omega, by go_num, by rw [HST2.out], by rw [HST2.out, hl6], HNI2, by rw [HST2.out, hl6]; exact HO6, HB6⟩
            case measure => simp [intOf]; omega
    · obtain rfl : i = n := by omega
      have e1 : decide ((i : Int) < (i : Int)) = false := decide_eq_false (by omega)
      have e2 : decide (i < i) = false := decide_eq_false (by omega)
      have hall : l.take i = l := List.take_of_length_le (by rw [HN.out]; exact Nat.le_refl _)
      have HE : Hid (Mt.putL t l = if d then o else o ++ [t]) := Lib.hid (by
        have h1 := HNI.out
        have h2 := HOD.out
        rw [hall] at h1 h2
        unfold Mt.putL
        rw [if_neg h1, h2])
      clear hall
      cases d with
      | true =>
        have HE2 : Hid (Mt.putL t l = o) := Lib.hid HE.out
        go_wp2_with fail
        go_ret
        exact ⟨_, _, _, rfl, by rw [HE2.out]; exact IsOwn.nms (by rw [HKL.out]; exact HO.out), HB.out⟩
      | false =>
        obtain ⟨a3, c3, w5, hrun, hown, hb5⟩ := own_push (T := 29) (tx := 29) Try.underlying29 Try.underlying29 HI.out.1 HI.out.2.1 HI.out.2.2.1 HI.out.2.2.2 rfl HO.out HB.out.size (nms_one _) #[.string T] rfl (by simp [Value.oneCell']) (by omega) (by omega)
        have e : nms o ++ (#[.string T] : Array Value).toList = nms (o ++ [t]) := by rw [← HTT.out]; simp [nms]
        rw [e] at hown
        have HO5 := Lib.hid hown
        have HB5 := Lib.hid (HB.out.trans hb5)
        have HE2 : Hid (Mt.putL t l = o ++ [t]) := Lib.hid HE.out
        clear hown hb5 e
        go_upto_region 15 with (with_reducible refine oper_append13' (.tmp 37) (.tmp 39) 29 29 ?_ _ _ ?_ ?_ _ ?_ hrun ?_; rfl; simp [go_sem]; simp [go_sem]; with_reducible rfl)
        clear hrun
        go_wp2_with fail
        go_ret
        exact ⟨_, _, _, rfl, by rw [HE2.out]; exact IsOwn.nms (by rw [List.length_append, HKL.out]; exact HO5.out), HB5.out⟩
end Go.Proofs.Ytkinemlgifeimaa

/-
  A list of names that rises, with one more name put in.
-/
namespace Go.Proofs.Ytkinemlgifeimaa.Mt
open Go.RowKit

theorem lt_of_not {a b : List UInt8} (h : ¬ a < b) (hne : a ≠ b) : b < a := by
  by_cases hb : b < a
  · exact hb
  · exact absurd (List.le_antisymm (List.not_lt.1 hb) (List.not_lt.1 h)) hne
theorem lt_irr (a : List UInt8) : ¬ a < a := List.lt_irrefl a
/-- What is there behind so many names. -/
structure PutI (t : List UInt8) (q : List (List UInt8)) (p : List (List UInt8) × Bool) : Prop where
  mem : ∀ x, x ∈ p.1 ↔ x ∈ q ∨ (p.2 = true ∧ x = t)
  up : p.1.Pairwise (· < ·)
  no : p.2 = false → ∀ x ∈ q, ¬ t < x
  yes : p.2 = true → ∃ y ∈ q, t < y
theorem up_snoc {l : List (List UInt8)} {x : List UInt8} (h : l.Pairwise (· < ·)) (hx : ∀ y ∈ l, y < x) : (l ++ [x]).Pairwise (· < ·) := by
  rw [List.pairwise_append]
  exact ⟨h, by simp, fun a ha b hb => by rw [List.mem_singleton] at hb; subst hb; exact hx a ha⟩
theorem putI_step {t : List UInt8} {q : List (List UInt8)} {p : List (List UInt8) × Bool} {x : List UInt8} (h : PutI t q p) (hup : (q ++ [x]).Pairwise (· < ·)) (ht : t ∉ q ++ [x]) : PutI t (q ++ [x]) (putStep t p x) := by
  have hqx : ∀ y ∈ q, y < x := fun y hy => (List.pairwise_append.1 hup).2.2 y hy x (by simp)
  have htq : ∀ y ∈ q, y ≠ t := fun y hy e => ht (by rw [← e]; exact List.mem_append_left _ hy)
  have htx : t ≠ x := fun e => ht (by rw [e]; simp)
  obtain ⟨o, d⟩ := p
  unfold putStep
  by_cases hc : (!d && Op.bytesLess t x) = true
  · simp only [if_pos hc]
    simp only [Bool.and_eq_true, Bool.not_eq_true', bytesLess_eq, decide_eq_true_eq] at hc
    obtain ⟨rfl, htlt⟩ := hc
    have hmo : ∀ y, y ∈ o ↔ y ∈ q := fun y => by have := h.mem y; simpa using this
    have hot : ∀ y ∈ o, y < t := fun y hy => lt_of_not (h.no rfl y ((hmo y).1 hy)) (fun e => htq y ((hmo y).1 hy) e.symm)
    refine ⟨fun y => ?_, up_snoc (up_snoc h.up hot) (fun y hy => ?_), fun e => by simp at e, fun _ => ⟨x, by simp, htlt⟩⟩
    · simp only [List.mem_append, List.mem_singleton, hmo y, true_and]
      constructor
      · rintro ((h | h) | h)
        · exact .inl (.inl h)
        · exact .inr h
        · exact .inl (.inr h)
      · rintro ((h | h) | h)
        · exact .inl (.inl h)
        · exact .inr h
        · exact .inl (.inr h)
    · rcases List.mem_append.1 hy with hy | hy
      · exact hqx y ((hmo y).1 hy)
      · rw [List.mem_singleton] at hy; subst hy; exact htlt
  · simp only [if_neg hc]
    simp only [Bool.and_eq_true, Bool.not_eq_true', bytesLess_eq, decide_eq_true_eq, not_and] at hc
    refine ⟨fun y => ?_, up_snoc h.up (fun y hy => ?_), fun e y hy => ?_, fun e => ?_⟩
    · have := h.mem y
      simp only at this
      simp only [List.mem_append, List.mem_singleton, this]
      constructor
      · rintro ((h | h) | h)
        · exact .inl (.inl h)
        · exact .inr h
        · exact .inl (.inr h)
      · rintro ((h | h) | h)
        · exact .inl (.inl h)
        · exact .inr h
        · exact .inl (.inr h)
    · rcases (h.mem y).1 hy with h1 | ⟨h1, rfl⟩
      · exact hqx y h1
      · obtain ⟨z, hz, hlt⟩ := h.yes h1
        exact List.lt_trans hlt (hqx z hz)
    · rcases List.mem_append.1 hy with hy | hy
      · exact h.no e y hy
      · rw [List.mem_singleton] at hy; subst hy; exact hc e
    · obtain ⟨z, hz, hlt⟩ := h.yes e
      exact ⟨z, List.mem_append_left _ hz, hlt⟩
theorem putI_all {t : List UInt8} : ∀ (r q : List (List UInt8)) (p : List (List UInt8) × Bool), PutI t q p → (q ++ r).Pairwise (· < ·) → t ∉ q ++ r → PutI t (q ++ r) (r.foldl (putStep t) p)
  | [], q, p, h, _, _ => by simpa using h
  | x :: r, q, p, h, hup, ht => by
    have e : q ++ x :: r = (q ++ [x]) ++ r := by simp
    rw [e] at hup ht ⊢
    rw [List.foldl_cons]
    exact putI_all r (q ++ [x]) (putStep t p x) (putI_step h (List.pairwise_append.1 hup).1 (fun hm => ht (List.mem_append_left _ hm))) hup ht
/-- It rises, and has the name besides. -/
theorem putL_spec (t : List UInt8) {l : List (List UInt8)} (h : l.Pairwise (· < ·)) : (putL t l).Pairwise (· < ·) ∧ ∀ x, x ∈ putL t l ↔ x = t ∨ x ∈ l := by
  unfold putL
  by_cases ht : t ∈ l
  · rw [if_pos ht]
    exact ⟨h, fun x => ⟨.inr, fun hx => hx.elim (fun e => e ▸ ht) id⟩⟩
  · rw [if_neg ht]
    have hI : PutI t l (putF t l) := by
      have := putI_all (t := t) l [] ([], false) ⟨by simp, by simp, by simp, by simp⟩ (by simpa using h) (by simpa using ht)
      simpa [putF] using this
    generalize putF t l = P at hI ⊢
    obtain ⟨o, d⟩ := P
    cases d with
    | true =>
      refine ⟨hI.up, fun x => ?_⟩
      have := hI.mem x
      simp only [true_and] at this
      simp only [if_true, this]
      exact ⟨fun h => h.elim .inr .inl, fun h => h.elim .inr .inl⟩
    | false =>
      have hm : ∀ x, x ∈ o ↔ x ∈ l := fun x => by have := hI.mem x; simpa using this
      refine ⟨up_snoc hI.up (fun y hy => lt_of_not (hI.no rfl y ((hm y).1 hy)) (fun e => ht (e ▸ (hm y).1 hy))), fun x => ?_⟩
      show x ∈ o ++ [t] ↔ _
      rw [List.mem_append, List.mem_singleton, hm x]
      exact ⟨fun h => h.elim .inr .inl, fun h => h.elim .inr .inl⟩
/-- Two lists that rise and have the same names are one. -/
theorem up_eq : ∀ {a b : List (List UInt8)}, a.Pairwise (· < ·) → b.Pairwise (· < ·) → (∀ x, x ∈ a ↔ x ∈ b) → a = b
  | [], [], _, _, _ => rfl
  | [], y :: b, _, _, h => absurd ((h y).2 (by simp)) (by simp)
  | x :: a, [], _, _, h => absurd ((h x).1 (by simp)) (by simp)
  | x :: a, y :: b, ha, hb, h => by
    rw [List.pairwise_cons] at ha hb
    have hxy : x = y := by
      rcases List.mem_cons.1 ((h x).1 (by simp)) with h1 | h1
      · exact h1
      · rcases List.mem_cons.1 ((h y).2 (by simp)) with h2 | h2
        · exact h2.symm
        · exact absurd (List.lt_trans (ha.1 y h2) (hb.1 x h1)) (lt_irr x)
    subst hxy
    congr 1
    refine up_eq ha.2 hb.2 (fun z => ?_)
    have hz := h z
    simp only [List.mem_cons] at hz
    constructor
    · intro hza
      rcases hz.1 (.inr hza) with rfl | h1
      · exact absurd (ha.1 z hza) (lt_irr z)
      · exact h1
    · intro hzb
      rcases hz.2 (.inr hzb) with rfl | h1
      · exact absurd (hb.1 z hzb) (lt_irr z)
      · exact h1
/-- What Wants tells rises. -/
theorem those_up (M Y : List (List UInt8)) (k : Int) : (those M Y k).Pairwise (· < ·) := by
  have hs : (those M Y k).Pairwise (fun a b => leB a b = true) := by
    unfold those
    refine List.pairwise_mergeSort (fun a b c h1 h2 => ?_) (fun a b => ?_) _
    · simp only [leB, decide_eq_true_eq] at *
      exact List.le_trans h1 h2
    · simp only [leB, Bool.or_eq_true, decide_eq_true_eq]
      exact List.le_total a b
  have hn := nodup_those M Y k
  rw [List.nodup_iff_pairwise_ne] at hn
  refine (hs.and hn).imp (fun {a b} hab => ?_)
  obtain ⟨h1, h2⟩ := hab
  simp only [leB, decide_eq_true_eq] at h1
  exact lt_of_not (List.not_lt.2 h1) (fun e => h2 e.symm)
/-- What must be, as the document has it. -/
theorem wants_must {s : Sc} {cs M : List (List UInt8)} (h : M.Pairwise (· < ·)) (hm : ∀ x, x ∈ M ↔ x ∈ mustI s (idxs s cs)) : M = (wantsS s cs).1 :=
  up_eq h (those_up _ _ _) (fun x => by rw [hm x]; exact (mem_those2).symm)
/-- What may be: what of all need not be. -/
theorem wants_may {s : Sc} {cs A M : List (List UInt8)} (h : A.Pairwise (· < ·)) (ha : ∀ x, x ∈ A ↔ x ∈ mayI s (idxs s cs)) (hm : ∀ x, x ∈ M ↔ x ∈ mustI s (idxs s cs)) : A.filter (fun x => !decide (x ∈ M)) = (wantsS s cs).2 :=
  up_eq (h.filter _) (those_up _ _ _) (fun x => by
    rw [List.mem_filter, ha x]
    show _ ↔ x ∈ those _ _ 1
    rw [mem_those1]
    simp only [Bool.not_eq_true', decide_eq_false_iff_not, hm x]
    exact And.comm)
theorem idxs_step (s : Sc) {cs : List (List UInt8)} {i : Nat} (hi : i < cs.length) : idxs s (cs.take (i + 1)) = idxs s (cs.take i) ++ chain s cs[i] := by
  rw [List.take_succ_eq_append_getElem hi, idxs_app]; simp [idxs]
theorem mustI_step (s : Sc) {l : List Nat} {j : Nat} (hj : j < l.length) : mustI s (l.take (j + 1)) = mustI s (l.take j) ++ (clI s ((l[j] : Nat) : Int)).must.map foldL := by
  rw [List.take_succ_eq_append_getElem hj, mustI_app]; simp [mustI]
theorem mayI_step (s : Sc) {l : List Nat} {j : Nat} (hj : j < l.length) : mayI s (l.take (j + 1)) = mayI s (l.take j) ++ (clI s ((l[j] : Nat) : Int)).may.map foldL := by
  rw [List.take_succ_eq_append_getElem hj, mayI_app]; simp [mayI]
end Go.Proofs.Ytkinemlgifeimaa.Mt

/-
  A list of names that rises, in memory; one more name put in.
-/
namespace Go.Proofs.Ytkinemlgifeimaa
open Go.RowKit

theorem Mt.up_len {M T : List (List UInt8)} (h : M.Pairwise (· < ·)) (hT : ∀ x ∈ M, x ∈ T) : M.length ≤ T.length := by
  refine Mt.length_le_of_sub _ _ ?_ hT
  rw [List.nodup_iff_pairwise_ne]
  refine h.imp (fun {a b} hab => ?_)
  rintro rfl
  exact Mt.lt_irr a hab
/-- A list that rises, of these names. -/
def StN (u : World) (v : Value) (L : List (List UInt8)) : Prop := ∃ M : List (List UInt8), IsNms u v M ∧ M.Pairwise (· < ·) ∧ ∀ x, x ∈ M ↔ x ∈ L
theorem StN.below {u u' : World} {v : Value} {L : List (List UInt8)} (h : StN u v L) (hb : Below u.heap.size u u') : StN u' v L := by
  obtain ⟨M, h1, h2⟩ := h
  exact ⟨M, h1.below hb, h2⟩
theorem StN.nil (u : World) : StN u (.slice none 0 0) [] := ⟨[], nms_none u, by simp, by simp⟩
theorem StN.put {u : World} {v : Value} {L T : List (List UInt8)} (h : StN u v L) (hT : ∀ x ∈ L, x ∈ T) (hTl : T.length ≤ 4398046511104) (t : List UInt8) :
    Calls Try.prog 41 #[v, .string (Mt.str t)] u fun e w' => ∃ a n c, e = .returned (.slice a n c) ∧ StN w' (.slice a n c) (L ++ [t]) ∧ Below u.heap.size u w' := by
  obtain ⟨M, h1, h2, h3⟩ := h
  refine (put13_any h1 t (Nat.le_trans (Mt.up_len h2 (fun x hx => hT x ((h3 x).1 hx))) hTl)).mono ?_
  rintro e w' ⟨a, n, c, rfl, hn, hb⟩
  obtain ⟨p1, p2⟩ := Mt.putL_spec t h2
  refine ⟨a, n, c, rfl, ⟨_, hn, p1, fun x => ?_⟩, hb⟩
  rw [p2 x, h3 x, List.mem_append, List.mem_singleton]
  exact Or.comm
end Go.Proofs.Ytkinemlgifeimaa
