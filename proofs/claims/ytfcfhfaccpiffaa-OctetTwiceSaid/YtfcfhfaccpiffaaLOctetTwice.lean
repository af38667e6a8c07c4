/-
  OctetTwice is proved: what has no blank too many stays as it is; blanks at the ends, and letters' size, make no difference. No condition beyond the statement's own (texts of at most 5000 bytes are looked at).
-/
import Derived.Test.YtfcfhfaccpiffaaRows
import Derived.Test.YtfcfhfaccpiffaaAwake
import Derived.Test.YtfcfhfaccpiffaaPrepEq
import Derived.ProofKit
import Derived.OpenShut
import Derived.ShutString
import Derived.SizedLaws
namespace Go.Proofs.Ytfcfhfaccpiffaa.octetTwice
open Go.ChangeShapes Go.WideShapes Go.ChangeAt Go.RowKit
open Go.ChangeMaps (open_string shut_string)
set_option linter.unusedVariables false

set_option maxHeartbeats 800000 in
set_option maxRecDepth 100000 in
theorem walk (s : ByteArray) (a1 : Int) (w0 : s.size ≤ 140737488351232) (w1 : (Lit.int .u8 a1).wf = true) (w : World) :
    Calls Try.prog 9 #[.string s, .int .u8 a1] w fun e w' => e = .returned (.bool true) ∧ Below w.heap.size w w' := by
  have hb8 := bounds_u8 w1
  obtain ⟨m, rfl⟩ := Int.eq_ofNat_of_zero_le hb8.1
  clear w1
  by_cases hbig : 5000 < s.size
  · have hb : (5000 : Int) < (s.size : Int) := by omega
    go_enter Try.func9, Try.ntmps9
    go_wp2_with fail
    refine (awake1_any _).mono ?_
    rintro e w1 ⟨rfl, hb1⟩
    have H1 := Lib.hid hb1
    clear hb1
    go_wp2_with fail
    go_ret
    exact ⟨rfl, H1.out⟩
  · have hb : (s.size : Int) ≤ 5000 := by omega
    obtain ⟨P, hP⟩ : ∃ P, Mt.str (Mt.prep s.data.toList) = P := ⟨_, rfl⟩
    obtain ⟨Fo, hF⟩ : ∃ Fo, Mt.str (s.data.toList.map Mt.sm) = Fo := ⟨_, rfl⟩
    have hPd : P.data.toList = Mt.prep s.data.toList := by rw [← hP, Mt.str_data]
    have hFd : Fo.data.toList = s.data.toList.map Mt.sm := by rw [← hF, Mt.str_data]
    have hPs : P.size ≤ 5000 := by
      have := Mt.prep_length s.data.toList
      have e : s.data.toList.length = s.size := rfl
      rw [← hP, Mt.str_size]; omega
    have hFs : Fo.size = s.size := by rw [← hF, Mt.str_size]; simp
    have c1 := fun u => prep_any s u w0
    rw [hP] at c1
    have c2 := fun u => prep_any P u (by omega)
    rw [hPd, Mt.prep_prep, hP] at c2
    have c3 := fun (k : Nat) (hk : k ≤ 9) u => prep_any (Mt.wid s k) u (by rw [Mt.wid_size]; omega)
    have c4 := fun u => prep_any Fo u (by omega)
    rw [hFd, Mt.prep_fold, hP] at c4
    have c5 := fun u => fold_any s u w0
    rw [hF] at c5
    have c6 := fun u => fold_any Fo u (by omega)
    rw [hFd, Mt.fold_fold, hF] at c6
    have c3' : ∀ k, k ≤ 9 → ∀ u, Calls Try.prog 25 #[.string (Mt.wid s k)] u fun e w' => e = .returned (.string P) ∧ Below u.heap.size u w' := fun k hk u => by
      have h := c3 k hk u
      rwa [Mt.wid_prep, hP] at h
    have C1 := Lib.hid c1
    have C2 := Lib.hid c2
    have C3 := Lib.hid c3'
    have C4 := Lib.hid c4
    have C5 := Lib.hid c5
    have C6 := Lib.hid c6
    have HFS := Lib.hid hFs
    clear c1 c2 c3 c3' c4 c5 c6 hP hF hPd hFd hPs hFs hbig
    have hm9 : m % 9 < 9 := Nat.mod_lt _ (by decide)
    go_enter Try.func9, Try.ntmps9
    go_wp2_with fail
    refine (C1.out _).mono ?_
    rintro e w1 ⟨rfl, hb1⟩
    have H1 := Lib.hid hb1
    clear hb1
    go_wp2_with fail
    go_loop [6, 16] (fun v i => ∃ k : Nat, k ≤ m % 9 ∧ i = .int .u8 k ∧ v = .string (Mt.wid s k)) (fun _ i => m % 9 - (intOf i).toNat)
    case atStart => exact ⟨0, Nat.zero_le _, rfl, rfl⟩
    case round =>
      obtain ⟨k, hk, rfl, rfl⟩ := hrel
      by_cases hlt : k < m % 9
      · have hsz := Mt.wid_size s k
        have hadd := fun wx => run_string_add_sum (w := wx) (P := Try.prog) ⟨#[32]⟩ (Mt.wid s k) (by rw [hsz]; show 1 + _ ≤ _; omega)
        have hadd2 := fun wx => run_string_add_sum (w := wx) (P := Try.prog) (⟨#[32]⟩ ++ Mt.wid s k) ⟨#[32]⟩ (by rw [ByteArray.size_append, hsz]; show 1 + _ + 1 ≤ _; omega)
        clear hsz
        go_wp2_with fail
        go_round
        case rel => exact ⟨k + 1, by omega, by go_num, rfl⟩
        case measure => simp [intOf]; omega
      · go_wp2_with fail
        refine (awake1_any _).mono ?_
        rintro e w2 ⟨rfl, hb2⟩
        have H2 := Lib.hid (H1.out.trans (hb2.mono H1.out.size))
        clear hb2
        go_wp2_with fail
        refine (C2.out _).mono ?_
        rintro e w3 ⟨rfl, hb3⟩
        have H3 := Lib.hid (H2.out.trans (hb3.mono H2.out.size))
        clear hb3
        go_wp2_with fail
        refine (C3.out k (by omega) _).mono ?_
        rintro e w4 ⟨rfl, hb4⟩
        have H4 := Lib.hid (H3.out.trans (hb4.mono H3.out.size))
        clear hb4
        go_wp2_with fail
        refine (C5.out _).mono ?_
        rintro e w5 ⟨rfl, hb5⟩
        have H5 := Lib.hid (H4.out.trans (hb5.mono H4.out.size))
        clear hb5
        go_wp2_with fail
        refine (C4.out _).mono ?_
        rintro e w6 ⟨rfl, hb6⟩
        have H6 := Lib.hid (H5.out.trans (hb6.mono H5.out.size))
        clear hb6
        go_wp2_with fail
        refine (C5.out _).mono ?_
        rintro e w7 ⟨rfl, hb7⟩
        have H7 := Lib.hid (H6.out.trans (hb7.mono H6.out.size))
        clear hb7
        go_wp2_with fail
        refine (C6.out _).mono ?_
        rintro e w8 ⟨rfl, hb8⟩
        have H8 := Lib.hid (H7.out.trans (hb8.mono H7.out.size))
        clear hb8
        go_wp2_with fail
        refine (C5.out _).mono ?_
        rintro e w9 ⟨rfl, hb9⟩
        have H9 := Lib.hid (H8.out.trans (hb9.mono H8.out.size))
        clear hb9
        go_wp2_with fail
        refine (C5.out _).mono ?_
        rintro e w10 ⟨rfl, hb10⟩
        have H10 := Lib.hid (H9.out.trans (hb10.mono H9.out.size))
        clear hb10
        have hfs := HFS.out
        go_wp2_with fail
        go_ret
        exact ⟨Mt.ret_bool (by simp), H10.out⟩

/-! The step from the walk to the row. -/
theorem own : ownKnob Try.prog.godebug = none := by kernel_rfl

set_option maxRecDepth 100000 in
theorem lifted (os : Os) (started : os.Started) (H : Type) (enc : TypeId × Value → H) :
    ReturnsInHanded {} Try.checked os 9 .any (Rows.octetTwiceSpec.pre6 enc Try.prog Try.f9 Rows.octetTwiceRow.domain false) (Rows.octetTwiceSpec.post enc Try.prog Try.f9 false true false false) := by
  refine returnsInHanded_of_change_sized (C := Try.checked) own started (by kernel_rfl) Try.func9
    (ChangeSpec.witness6 (enc := enc) (C := Try.checked) false ⟨#[], #[.string .empty, .int .u8 0], []⟩ 8 (by kernel_rfl) (by kernel_rfl) (by kernel_rfl) (by kernel_rfl)) ?_
  intro W base args ds gs before hval0 hW _ hsz0 _
  have hsz : (DataW.weightsEach Try.prog (Try.f9.params.toList ++ Rows.octetTwiceSpec.plain.varTypes Try.prog) (ds ++ gs)).all (· ≤ reachBytes) = true := hsz0
  have hval : ∀ (j : Nat) t v, Try.f9.params[j]? = some t → args[j]? = some v → Value.okWide Try.prog W .any base t v := hval0
  have hW' := hW
  obtain ⟨p, q, hA0, hV, rfl, _, _⟩ := hW
  have hA : DataW.TrodAll enc Try.prog W 0 (fun _ => true) true Try.f9.params.toList args.toList ds p := hA0
  rw [Try.params9] at hA hval hsz
  obtain ⟨v0, vs0, d0, ds0, p0, q0, hargs, rfl, rfl, h0, r0⟩ := trodAll_cons hA
  obtain ⟨v1, vs1, d1, ds1, p1, q1, rfl, rfl, rfl, h1, r1⟩ := trodAll_cons r0
  obtain ⟨rfl, rfl, rfl⟩ := trodAll_nil r1
  obtain rfl : args = #[v0, v1] := by cases args; simp_all
  obtain ⟨rfl, rfl⟩ := trodVars_none hV
  obtain ⟨a0, rfl, rfl, rfl, m0⟩ := open_string Try.underlying9 (hval 0 9 v0 rfl rfl) h0
  have w0 : a0.size ≤ 140737488351232 := by
    have h : a0.data.toList.length ≤ reachBytes := sized_string hsz (j := 0) (t := 9) rfl rfl
    simpa [reachBytes] using h
  obtain ⟨a1, rfl, rfl, rfl, w1⟩ := open_int Try.underlying5 (hval 1 5 v1 rfl rfl) h1
  clear hA0 hval0
  simp only [List.append_nil] at hW'
  refine (walk a0 a1 w0 w1 W).mono fun e W' ⟨he, bel⟩ => ?_
  subst he
  exact ⟨_, rfl, _, _, _, [], _, [], hW', trodAll_mk1 (shut_bool Try.underlying4 _), (trodAll_cons_mk (shut_string Try.underlying9 m0) (trodAll_cons_mk (shut_int Try.underlying5 w1) trodAll_mk0)), rfl, bel.frame _, fun h => by cases h⟩

theorem proved : Rows.OctetTwiceSaid :=
  OpenClaim.holds_of_wide 9 Try.f9 rfl rfl rfl rfl rfl rfl rfl ⟨rfl, rfl, rfl, rfl, rfl⟩ rfl rfl rfl rfl rfl (by kernel_rfl) Try.func9 (by kernel_rfl)
    (of_decide_eq_true (by kernel_rfl)) (by unfold Func.isWrapper; first | (rw [if_pos (by decide +kernel)]; kernel_rfl) | (rw [if_neg (by decide +kernel)]; exact ⟨rfl, rfl⟩))
    (fun os started H enc _ => lifted os started H enc)

#print axioms proved
end Go.Proofs.Ytfcfhfaccpiffaa.octetTwice
