/-
  Some texts of one proof, one behind the other.
-/
import Derived.Test.YtngdbhncafnliaaGreatPk25
set_option linter.unusedVariables false
set_option linter.unusedSimpArgs false

/-
  What the calls dn.Print, Norm, Key and Under come to.
-/
namespace Go.Proofs.YtngdbhncafnliaaGreat
open Go.RowKit

theorem Mt.askA_good (r : List Mt.Av) : ∀ (t : List Mt.Av) (i : Nat), i ≤ 8 → Mt.askA r i t = 0 → i + t.length ≤ 8 ∧ ∀ a ∈ t, Mt.typL a.1 = true
  | [], i, hi, _ => ⟨by simpa using hi, by simp⟩
  | a :: t, i, hi, h => by
    simp only [Mt.askA] at h
    split at h
    · cases h
    split at h
    · cases h
    split at h
    · cases h
    rename_i h1 h2 _
    have := Mt.askA_good r t (i + 1) (by omega) h
    refine ⟨by simp; omega, fun b hb => ?_⟩
    rcases List.mem_cons.1 hb with rfl | hb
    · simpa using h2
    · exact this.2 b hb
theorem Mt.askF_good : ∀ (d : List (List Mt.Av)) (i : Nat), i ≤ 32 → Mt.askF i d = 0 → i + d.length ≤ 32 ∧ ∀ r ∈ d, Mt.askR r = 0
  | [], i, hi, _ => ⟨by simpa using hi, by simp⟩
  | r :: t, i, hi, h => by
    simp only [Mt.askF] at h
    split at h
    · cases h
    split at h
    · rename_i h1; exact absurd h h1
    rename_i h1 h2
    have := Mt.askF_good t (i + 1) (by omega) h
    refine ⟨by simp; omega, fun b hb => ?_⟩
    rcases List.mem_cons.1 hb with rfl | hb
    · simpa using h2
    · exact this.2 b hb
theorem Mt.ask_good {d : List (List Mt.Av)} (h : Mt.askD d = 0) : Mt.GoodD d := by
  unfold Mt.askD at h
  split at h
  · rename_i h1; exact absurd h h1
  split at h
  · cases h
  rename_i h1 h2
  have h3 := Mt.askF_good d 0 (by omega) (by simpa using h1)
  refine ⟨by omega, fun r hr => ?_⟩
  have h4 := h3.2 r hr
  unfold Mt.askR at h4
  split at h4
  · cases h4
  have h5 := Mt.askA_good r r 0 (by omega) h4
  refine ⟨by omega, fun a ha => ⟨Mt.typ_len (h5.2 a ha), ?_⟩⟩
  have h6 : d.any Mt.longR = false := by simpa using h2
  rw [List.any_eq_false] at h6
  have h7 := h6 r hr
  unfold Mt.longR at h7
  simp only [List.any_eq_true, not_exists, not_and, decide_eq_true_eq] at h7
  have := h7 a ha; omega

/-- A text, or what is wrong. -/
def textV : Except Nat (List UInt8) → Value
  | .error e => .tuple #[.string ByteArray.empty, .int .i64 e]
  | .ok t => .tuple #[.string (Mt.str t), .int .i64 0]

set_option maxRecDepth 100000 in
theorem print_any {w : World} {v : Value} {d : List (List Mt.Av)} (hv : IsDn w v d) :
    Calls Tryz.prog 36 #[v] w fun e w' => e = .returned (textV (Mt.printD d)) ∧ Below w.heap.size w w' := by
  have HA := Lib.hid (ask_any hv)
  have HDN := Lib.hid (fun (u : World) (hu : Below w.heap.size w u) => hv.below hu)
  obtain ⟨a, cap, rfl, _⟩ := hv
  obtain ⟨e, he⟩ : ∃ e, Mt.askD d = e := ⟨_, rfl⟩
  rw [he] at HA
  by_cases h0 : e = 0
  · subst h0
    have hg := Mt.ask_good he
    have HW := Lib.hid (fun (u : World) (hu : Below w.heap.size w u) => write_spelt_any (HDN.out u hu) hg)
    obtain ⟨T, hT⟩ : ∃ T, Mt.str (Mt.textL Mt.speltL d) = T := ⟨_, rfl⟩
    have hTs : T.size = (Mt.textL Mt.speltL d).length := by rw [← hT, Mt.str_size]
    rw [hT] at HW
    obtain ⟨z, hz⟩ : ∃ z, decide ((4096 : Int) < (T.size : Int)) = z := ⟨_, rfl⟩
    have hz2 : decide (4096 < (Mt.textL Mt.speltL d).length) = z := by rw [← hz, hTs, Bool.eq_iff_iff]; simp only [decide_eq_true_eq]; omega
    have HF : Hid (textV (Mt.printD d) = if z then .tuple #[.string ByteArray.empty, .int .i64 5] else .tuple #[.string T, .int .i64 0]) := Lib.hid (by
      unfold Mt.printD
      rw [if_neg (by rw [he]; simp), ← hz2, ← hT]
      by_cases h : 4096 < (Mt.textL Mt.speltL d).length
      · rw [if_pos h, decide_eq_true h]; rfl
      · rw [if_neg h, decide_eq_false h]; rfl)
    rw [HF.out]
    clear HF hz2 hTs hT hg he
    cases z
    all_goals
      go_enter Tryz.func36, Tryz.ntmps36
      go_wp2_with fail
      refine (HA.out).mono ?_
      rintro e w2 ⟨rfl, hb⟩
      have HW2 := Lib.hid (HW.out _ hb)
      have HB := Lib.hid hb
      clear hb
      go_wp2_with fail
      refine (HW2.out).mono ?_
      rintro e w3 ⟨rfl, hb⟩
      have HB3 := Lib.hid (HB.out.trans (hb.mono HB.out.size))
      clear hb
      go_wp2_with fail
      go_ret2
      exact ⟨rfl, HB3.out⟩
  · have HF : Hid (textV (Mt.printD d) = .tuple #[.string ByteArray.empty, .int .i64 e]) := Lib.hid (by
      unfold Mt.printD; rw [if_pos (by rw [he]; exact h0), he]; rfl)
    have hei : ((e : Int) != 0) = true := by simp; omega
    rw [HF.out]
    clear he h0
    go_enter Tryz.func36, Tryz.ntmps36
    go_wp2_with fail
    refine (HA.out).mono ?_
    rintro x w2 ⟨rfl, hb⟩
    have HB := Lib.hid hb
    clear hb
    go_wp2_with fail
    go_ret2
    exact ⟨rfl, HB.out⟩

theorem Mt.print_err {d : List (List Mt.Av)} {e : Nat} (h : Mt.printD d = .error e) : 0 < e := by
  unfold Mt.printD at h
  split at h
  · cases h; omega
  split at h
  · cases h; omega
  · cases h
theorem Mt.print_good {d : List (List Mt.Av)} {t : List UInt8} (h : Mt.printD d = .ok t) : Mt.askD d = 0 ∧ t = Mt.textL Mt.speltL d ∧ t.length ≤ 4096 := by
  unfold Mt.printD at h
  split at h
  · cases h
  split at h
  · cases h
  · cases h; rename_i h1 h2; exact ⟨by simpa using h1, rfl, by omega⟩
theorem Mt.key_err {d : List (List Mt.Av)} {e : Nat} (h : Mt.keyD d = .error e) : 0 < e := by
  unfold Mt.keyD at h
  cases hp : Mt.printD d with
  | error x => rw [hp] at h; cases h; exact Mt.print_err hp
  | ok t => rw [hp] at h; cases h

set_option maxRecDepth 100000 in
theorem norm_any {w : World} {v : Value} {d : List (List Mt.Av)} (hv : IsDn w v d) :
    Calls Tryz.prog 23 #[v] w fun e w' => e = .returned (textV (Mt.keyD d)) ∧ Below w.heap.size w w' := by
  have HA := Lib.hid (print_any hv)
  have HDN := Lib.hid (fun (u : World) (hu : Below w.heap.size w u) => hv.below hu)
  obtain ⟨a, cap, rfl, _⟩ := hv
  unfold Mt.keyD
  cases hp : Mt.printD d with
  | error e =>
    rw [hp] at HA
    have hei : ((e : Int) != 0) = true := by have := Mt.print_err hp; simp; omega
    unfold textV at HA ⊢
    clear hp
    go_enter Tryz.func23, Tryz.ntmps23
    go_wp2_with fail
    refine (HA.out).mono ?_
    rintro x w2 ⟨rfl, hb⟩
    have HB := Lib.hid hb
    clear hb
    go_wp2_with fail
    go_ret2
    exact ⟨rfl, HB.out⟩
  | ok t =>
    rw [hp] at HA
    have hg := Mt.ask_good (Mt.print_good hp).1
    have HW := Lib.hid (fun (u : World) (hu : Below w.heap.size w u) => write_normal_any (HDN.out u hu) hg)
    unfold textV at HA ⊢
    clear hp hg
    go_enter Tryz.func23, Tryz.ntmps23
    go_wp2_with fail
    refine (HA.out).mono ?_
    rintro x w2 ⟨rfl, hb⟩
    have HW2 := Lib.hid (HW.out _ hb)
    have HB := Lib.hid hb
    clear hb
    go_wp2_with fail
    refine (HW2.out).mono ?_
    rintro e w3 ⟨rfl, hb⟩
    have HB3 := Lib.hid (HB.out.trans (hb.mono HB.out.size))
    clear hb
    go_wp2_with fail
    go_ret2
    exact ⟨rfl, HB3.out⟩

theorem Mt.dnF_err : ∀ {k : Nat} {acc : List (List Mt.Av)} {l : List UInt8} {e : Nat}, Mt.dnF k acc l = .error e → 0 < e
  | 0, acc, l, e, h => by simp [Mt.dnF] at h; omega
  | k + 1, acc, l, e, h => by
    simp only [Mt.dnF] at h
    cases hr : Mt.rdnF 8 [] l with
    | error x => rw [hr] at h; cases h; exact Mt.rdnF_err hr
    | ok p =>
      obtain ⟨r, rest⟩ := p
      rw [hr] at h
      simp only at h
      split at h
      · cases h
      · exact Mt.dnF_err h
theorem Mt.dnL_err {l : List UInt8} {e : Nat} (h : Mt.dnL l = .error e) : 0 < e := by
  unfold Mt.dnL at h
  split at h
  · cases h; omega
  split at h
  · cases h
  · exact Mt.dnF_err h

set_option maxRecDepth 100000 in
theorem key_any (s : ByteArray) (w : World) (hs : s.size ≤ 9223372036854775807) :
    Calls Tryz.prog 39 #[.string s] w fun e w' => e = .returned (textV (Mt.keyL s.data.toList)) ∧ Below w.heap.size w w' := by
  have HA := Lib.hid (dparse_any s w hs)
  unfold Mt.keyL
  unfold ParsP at HA
  cases hp : Mt.dnL s.data.toList with
  | error e =>
    rw [hp] at HA
    have hei : ((e : Int) != 0) = true := by have := Mt.dnL_err hp; simp; omega
    unfold textV
    clear hp
    go_enter Tryz.func39, Tryz.ntmps39
    go_wp2_with fail
    refine (HA.out).mono ?_
    rintro x w2 ⟨hb, rfl⟩
    have HB := Lib.hid hb
    clear hb
    go_wp2_with fail
    go_ret2
    exact ⟨rfl, HB.out⟩
  | ok d =>
    rw [hp] at HA
    obtain ⟨r, t, hrt⟩ : ∃ r t, textV (Mt.keyD d) = .tuple #[.string r, .int .i64 t] := by
      cases Mt.keyD d <;> exact ⟨_, _, rfl⟩
    simp only [hrt]
    have HRT := Lib.hid hrt
    clear hp hrt
    go_enter Tryz.func39, Tryz.ntmps39
    go_wp2_with fail
    refine (HA.out).mono ?_
    rintro x w2 ⟨hb, v, rfl, hdn⟩
    have HN := Lib.hid (norm_any hdn)
    rw [HRT.out] at HN
    obtain ⟨va, vc, rfl, _⟩ := hdn
    have HB := Lib.hid hb
    clear hb
    go_wp2_with fail
    refine (HN.out).mono ?_
    rintro e w3 ⟨rfl, hb⟩
    have HB3 := Lib.hid (HB.out.trans (hb.mono HB.out.size))
    clear hb
    go_wp2_with fail
    go_ret2
    exact ⟨rfl, HB3.out⟩
end Go.Proofs.YtngdbhncafnliaaGreat
