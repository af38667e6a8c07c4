/-
  TlvBack is proved: a node's bytes, with anything behind, are read as the node, and that; each beginning of them that isn't all is too short. No condition.
-/
import Derived.Test.YtfnggifadhploaaRows
import Derived.Test.YtfnggifadhploaaTvA
import Derived.Test.YtfnggifadhploaaTvF
import Derived.Test.YtfnggifadhploaaTvO
import Derived.ProofKit
import Derived.OpenShut
import Derived.ShutString
import Derived.SizedLaws
namespace Go.Proofs.Ytfnggifadhploaa.tlvBack
open Go.ChangeShapes Go.WideShapes Go.ChangeAt Go.RowKit
open Go.ChangeMaps (open_string shut_string)
set_option linter.unusedVariables false

set_option maxRecDepth 100000 in
set_option maxHeartbeats 1000000 in
theorem walk (n : Mt.Nd) (v : Value) (h : Nat) (b : ByteArray) (at' : Int) (wb : b.size ≤ 140737488351232) (wa : (Lit.int .i64 at').wf = true) (w : World) (hn : IsNd w (fun _ => True) h v n) :
    Calls Try.prog 6 #[v, .string b, .int .i64 at'] w fun e w' => e = .returned (.bool true) ∧ Below w.heap.size w w' := by
  obtain ⟨a, c, rfl⟩ := hn.form
  obtain ⟨O, hO⟩ : ∃ O, Obj.cells #[.int .i64 n.tag, .string (Mt.str n.data), .slice a n.kids.length c] 24 (0, 0) = O := ⟨_, rfl⟩
  have hb0 := (Below.refl w.heap.size w).alloc (Nat.le_refl _) O
  have hr0 := heap_alloc_new w O
  have HB0 := Lib.hid hb0
  have HR0 := Lib.hid hr0
  have HN0 := Lib.hid (hn.below hb0)
  have HP := Lib.hid (Put_any n _ (w.alloc O) _ _ (hn.below hb0))
  rw [← hO] at HB0 HR0 HN0 HP
  clear hb0 hr0 hO hn
  cases hp : Mt.putL 64 n with
  | error e =>
    have hene := Mt.putL_err _ _ _ hp
    have he1 : ((e : Int) != 0) = true := by simp; omega
    have he2 : ((e : Int) == 0) = false := by simp; omega
    rw [hp] at HP
    clear hp hene
    go_enter Try.func6, Try.ntmps6
    go_wp2_with fail
    refine (HP.out).mono ?_
    rintro x w1 ⟨rfl, hb⟩
    have HB1 := Lib.hid (HB0.out.trans (hb.mono HB0.out.size))
    clear hb
    simp only [putV]
    go_wp2_with fail
    refine (awake7_any _).mono ?_
    rintro x w2 ⟨rfl, hb⟩
    have HB2 := Lib.hid (HB1.out.trans (hb.mono HB1.out.size))
    clear hb
    go_wp2_with fail
    refine (awake7_any _).mono ?_
    rintro x w3 ⟨rfl, hb⟩
    have HB3 := Lib.hid (HB2.out.trans (hb.mono HB2.out.size))
    clear hb
    go_wp2_with fail
    go_ret
    exact ⟨rfl, HB3.out⟩
  | ok s =>
    have hsl := Mt.putL_length hp
    have hss : (Mt.str s).size = s.length := Mt.str_size s
    by_cases hfar : 100000 < s.length ∨ 1000 < b.size
    · rw [hp] at HP
      by_cases h1 : 100000 < s.length
      · have hd1 : decide (100000 < s.length) = true := decide_eq_true h1
        clear hp hfar
        go_enter Try.func6, Try.ntmps6
        go_wp2_with fail
        refine (HP.out).mono ?_
        rintro x w1 ⟨rfl, hb⟩
        have HB1 := Lib.hid (HB0.out.trans (hb.mono HB0.out.size))
        clear hb
        simp only [putV]
        go_wp2_with fail
        refine (awake7_any _).mono ?_
        rintro x w2 ⟨rfl, hb⟩
        have HB2 := Lib.hid (HB1.out.trans (hb.mono HB1.out.size))
        clear hb
        go_wp2_with fail
        refine (awake7_any _).mono ?_
        rintro x w3 ⟨rfl, hb⟩
        have HB3 := Lib.hid (HB2.out.trans (hb.mono HB2.out.size))
        clear hb
        go_wp2_with fail
        go_ret
        exact ⟨rfl, HB3.out⟩
      · have hd1 : decide (100000 < s.length) = false := decide_eq_false h1
        have h2 : 1000 < b.size := by omega
        have hd2 : decide (1000 < b.size) = true := decide_eq_true h2
        clear hp hfar
        go_enter Try.func6, Try.ntmps6
        go_wp2_with fail
        refine (HP.out).mono ?_
        rintro x w1 ⟨rfl, hb⟩
        have HB1 := Lib.hid (HB0.out.trans (hb.mono HB0.out.size))
        clear hb
        simp only [putV]
        go_wp2_with fail
        refine (awake7_any _).mono ?_
        rintro x w2 ⟨rfl, hb⟩
        have HB2 := Lib.hid (HB1.out.trans (hb.mono HB1.out.size))
        clear hb
        go_wp2_with fail
        refine (awake7_any _).mono ?_
        rintro x w3 ⟨rfl, hb⟩
        have HB3 := Lib.hid (HB2.out.trans (hb.mono HB2.out.size))
        clear hb
        go_wp2_with fail
        go_ret
        exact ⟨rfl, HB3.out⟩
    · have hl1 : s.length ≤ 100000 := by omega
      have hl2 : b.size ≤ 1000 := by omega
      have hd1 : decide (100000 < s.length) = false := decide_eq_false (by omega)
      have hd2 : decide (1000 < b.size) = false := decide_eq_false (by omega)
      have hpos : 0 < s.length := List.length_pos_iff.2 (Mt.putL_ne hp)
      have hparse := Mt.parse_put 64 n s b.data.toList hp
      obtain ⟨K, hKs, hK⟩ : ∃ K : Nat, K < s.length ∧ wrap64 ((IntKind.u64.wrap at').tmod (s.length : Int)) = (K : Int) := by
        have h0 := wrap_u64_nonneg at'
        obtain ⟨u, hu⟩ := Int.eq_ofNat_of_zero_le h0
        rw [hu, Int.tmod_eq_emod_of_nonneg (by omega)]
        have hlt : u % s.length < s.length := Nat.mod_lt _ hpos
        refine ⟨u % s.length, hlt, ?_⟩
        rw [← Int.natCast_emod]
        simp only [wrap64]; omega
      have hcut := Mt.parse_cut hp hKs
      have hsb : Mt.str s ++ b = Mt.str (s ++ b.data.toList) := Mt.str_append s b.data.toList
      have hadd := fun wx => run_string_add_sum (w := wx) (P := Try.prog) (Mt.str s) b (by rw [hss]; omega)
      rw [hsb] at hadd
      have HPP := Lib.hid (fun W => Parse_any (Mt.str (s ++ b.data.toList)) W (by rw [Mt.str_size, List.length_append]; have : b.data.toList.length = b.size := rfl; omega))
      have HPC := Lib.hid (fun W => Parse_any (Mt.str (s.take K)) W (by rw [Mt.str_size, List.length_take]; omega))
      have hxt : (Mt.str s).extract 0 K = Mt.str (s.take K) := Mt.extract_take (Mt.str s) K
      have hKi : (K : Int) ≤ s.length := by omega
      have HPA := Lib.hid hparse
      have HCU := Lib.hid hcut
      have HKK := Lib.hid hK
      rw [hp] at HP
      clear hp hfar hparse hcut hsb hK
      generalize hT : Mt.str (s ++ b.data.toList) = T at *
      have HT := Lib.hid hT
      clear hT
      go_enter Try.func6, Try.ntmps6
      go_wp2_with fail
      refine (HP.out).mono ?_
      rintro x w1 ⟨rfl, hb⟩
      have HB1 := Lib.hid (HB0.out.trans (hb.mono HB0.out.size))
      have HR1 := Lib.hid ((hb.block _ (lt_of_block HR0.out)).trans HR0.out)
      have HN1 := Lib.hid (HN0.out.below hb)
      clear hb
      simp only [putV]
      go_wp2_with fail
      refine (awake7_any _).mono ?_
      rintro x w2 ⟨rfl, hb⟩
      have HB2 := Lib.hid (HB1.out.trans (hb.mono HB1.out.size))
      have HR2 := Lib.hid ((hb.block _ (lt_of_block HR1.out)).trans HR1.out)
      have HN2 := Lib.hid (HN1.out.below hb)
      clear hb
      go_wp2_with fail
      refine (HPP.out _).mono ?_
      rintro x w3 ⟨hb, hx⟩
      rw [← HT.out, Mt.str_data, HPA.out] at hx
      obtain ⟨v2, rfl, hn2⟩ := hx
      obtain ⟨na, nc, rfl⟩ := hn2.form
      have HB3 := Lib.hid (HB2.out.trans (hb.mono HB2.out.size))
      have HR3 := Lib.hid ((hb.block _ (lt_of_block HR2.out)).trans HR2.out)
      have HN3 := Lib.hid (HN2.out.below hb)
      obtain ⟨O2, hO2⟩ : ∃ O, Obj.cells #[.int .i64 n.tag, .string (Mt.str n.data), .slice na n.kids.length nc] 24 (0, 0) = O := ⟨_, rfl⟩
      have hbx := (Below.refl w3.heap.size w3).alloc (Nat.le_refl _) O2
      have hrx := heap_alloc_new w3 O2
      have HB4 := Lib.hid (HB3.out.trans (hbx.mono HB3.out.size))
      have hr4 := (hbx.block _ (lt_of_block HR3.out)).trans HR3.out
      have HSM := Lib.hid (same_any _ _ n _ _ (w3.alloc O2) _ _ (hn2.below hbx) (HN3.out.below hbx))
      have hbid : Mt.str b.data.toList = b := rfl
      rw [← hO2] at HB4 HSM hr4
      obtain ⟨c0, c1, c2, _, _, _⟩ := box_of hr4
      have hlt3 := lt_of_block HR3.out
      clear hb hn2 hbx hrx hr4 hO2
      rw [hbid]
      clear hbid
      go_wp2_with fail
      refine (HSM.out).mono ?_
      rintro x w5 ⟨rfl, hb⟩
      have HB5 := Lib.hid (HB4.out.trans (hb.mono HB4.out.size))
      have hK := HKK.out
      clear hb
      go_wp2_with fail
      refine (HPC.out _).mono ?_
      rintro x w6 ⟨hb, hx⟩
      rw [Mt.str_data, HCU.out] at hx
      subst hx
      have HB6 := Lib.hid (HB5.out.trans (hb.mono HB5.out.size))
      clear hb
      unfold zeroN
      go_wp2_with fail
      go_ret
      exact ⟨rfl, HB6.out.alloc HB6.out.size _⟩

/-! The step from the walk to the row. -/
theorem own : ownKnob Try.prog.godebug = none := by kernel_rfl
theorem laidOut : laidOutB Try.prog = true := by kernel_rfl

set_option maxRecDepth 100000 in
theorem lifted (os : Os) (started : os.Started) (H : Type) (enc : TypeId × Value → H) :
    ReturnsInHanded {} Try.checked os 6 .any (Rows.tlvBackSpec.pre6 enc Try.prog Try.f6 Rows.tlvBackRow.domain false) (Rows.tlvBackSpec.post enc Try.prog Try.f6 false true false false) := by
  refine returnsInHanded_of_change_sized (C := Try.checked) own started (by kernel_rfl) Try.func6
    (ChangeSpec.witness6 (enc := enc) (C := Try.checked) false ⟨#[], #[.agg #[.int .i64 0, .string .empty, .slice none 0 0], .string .empty, .int .i64 0], []⟩ 8 (by kernel_rfl) (by kernel_rfl) (by kernel_rfl) (by kernel_rfl)) ?_
  intro W base args ds gs before hval0 hW _ hsz0 _
  have hsz : (DataW.weightsEach Try.prog (Try.f6.params.toList ++ Rows.tlvBackSpec.plain.varTypes Try.prog) (ds ++ gs)).all (· ≤ reachBytes) = true := hsz0
  have hval : ∀ (j : Nat) t v, Try.f6.params[j]? = some t → args[j]? = some v → Value.okWide Try.prog W .any base t v := hval0
  have hW' := hW
  obtain ⟨p, q, hA0, hV, rfl, _, _⟩ := hW
  have hA : DataW.TrodAll enc Try.prog W 0 (fun _ => true) true Try.f6.params.toList args.toList ds p := hA0
  rw [Try.params6] at hA hval hsz
  obtain ⟨v0, vs0, d0, ds0, p0, q0, hargs, rfl, rfl, h0, r0⟩ := trodAll_cons hA
  obtain ⟨v1, vs1, d1, ds1, p1, q1, rfl, rfl, rfl, h1, r1⟩ := trodAll_cons r0
  obtain ⟨v2, vs2, d2, ds2, p2, q2, rfl, rfl, rfl, h2, r2⟩ := trodAll_cons r1
  obtain ⟨rfl, rfl, rfl⟩ := trodAll_nil r2
  obtain rfl : args = #[v0, v1, v2] := by cases args; simp_all
  obtain ⟨rfl, rfl⟩ := trodVars_none hV
  have k0 := h0
  have lt0 : ∀ x ∈ p0, x.block < W.heap.size := by obtain ⟨m, hm⟩ := k0; exact DataW.trod_lt m _ _ _ hm
  obtain ⟨n0, m0, w0⟩ := open_node (j := 0) (hval 0 24 v0 rfl rfl) h0 rfl rfl hsz
  obtain ⟨a1, rfl, rfl, rfl, m1⟩ := open_string Try.underlying9 (hval 1 9 v1 rfl rfl) h1
  have w1 : a1.size ≤ 140737488351232 := by
    have h : a1.data.toList.length ≤ reachBytes := sized_string hsz (j := 1) (t := 9) rfl rfl
    simpa [reachBytes] using h
  obtain ⟨a2, rfl, rfl, rfl, w2⟩ := open_int Try.underlying3 (hval 2 3 v2 rfl rfl) h2
  clear hA0 hval0
  simp only [List.append_nil] at hW'
  refine (walk n0 v0 m0 a1 a2 w1 w2 W w0).mono fun e W' ⟨he, bel⟩ => ?_
  subst he
  exact ⟨_, rfl, _, _, _, [], _, [], hW', trodAll_mk1 (shut_bool Try.underlying4 _), (trodAll_cons_mk (Below.trod laidOut (by kernel_rfl) (of_decide_eq_true (by kernel_rfl)) k0 bel lt0) (trodAll_cons_mk (shut_string Try.underlying9 m1) (trodAll_cons_mk (shut_int Try.underlying3 w2) trodAll_mk0))), rfl, bel.frame _, fun h => by cases h⟩

theorem proved : Rows.TlvBackSaid :=
  OpenClaim.holds_of_wide 6 Try.f6 rfl rfl rfl rfl rfl rfl rfl ⟨rfl, rfl, rfl, rfl, rfl⟩ rfl rfl rfl rfl rfl (by kernel_rfl) Try.func6 (by kernel_rfl)
    (of_decide_eq_true (by kernel_rfl)) (by unfold Func.isWrapper; first | (rw [if_pos (by decide +kernel)]; kernel_rfl) | (rw [if_neg (by decide +kernel)]; exact ⟨rfl, rfl⟩))
    (fun os started H enc _ => lifted os started H enc)

#print axioms proved
end Go.Proofs.Ytfnggifadhploaa.tlvBack
