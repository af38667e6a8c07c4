/-
  JournalTwice is proved: any disk opened twice tells the same records, and one generation more. No condition.
-/
import Derived.Test.YtmahkgkhnpffeaaRows
import Derived.Test.YtmahkgkhnpffeaaJrAx
import Derived.Test.YtmahkgkhnpffeaaJrTw
import Derived.Test.YtmahkgkhnpffeaaJrZa
import Derived.ProofKit
import Derived.OpenShut
import Derived.ShutString
import Derived.SizedLaws
namespace Go.Proofs.Ytmahkgkhnpffeaa.journalTwice
open Go.ChangeShapes Go.WideShapes Go.ChangeAt Go.RowKit
open Go.ChangeMaps (open_string shut_string)
set_option linter.unusedVariables false

set_option maxRecDepth 100000 in
set_option maxHeartbeats 1000000 in
theorem walk (a0 : Int) (a1 : ByteArray) (w0 : (Lit.int .i64 a0).wf = true) (w1 : a1.size ≤ 140737488351232) (w : World) : Calls Try.prog 4 #[.int .i64 a0, .string a1] w fun e w' => e = .returned (.bool true) ∧ Below w.heap.size w w' := by
  have HAW := Lib.hid (fun u => awake6_any u)
  clear w0
  by_cases hs : 9000 < a1.size
  · have d1 : decide (9000 < a1.size) = true := decide_eq_true hs
    have d2 : decide ((9000 : Int) < (a1.size : Int)) = true := decide_eq_true (by omega)
    clear hs
    go_enter Try.func4, Try.ntmps4
    go_wp2_with fail
    refine (HAW.out _).mono ?_
    rintro e w2 ⟨rfl, hb⟩
    have HB := Lib.hid hb
    clear hb
    go_wp2_with fail
    go_ret
    exact ⟨rfl, HB.out⟩
  · have d1 : decide (9000 < a1.size) = false := decide_eq_false hs
    have d2 : decide ((9000 : Int) < (a1.size : Int)) = false := decide_eq_false (by omega)
    clear hs
    have HNEW := Lib.hid (new_any (min a0 70) w)
    have HCN := Lib.hid (Mt.calm_new (min (min a0 70).toNat 8192) (Nat.min_le_right _ _))
    generalize Mt.Dk.new (min (min a0 70).toNat 8192) = dn at *
    go_enter Try.func4, Try.ntmps4
    go_wp2_with fail
    refine (HNEW.out).mono ?_
    rintro e w2 ⟨rfl, hd, hb⟩
    generalize hB : w.heap.size + 2 = B at *
    generalize hbm : w.heap.size + 1 = bm at *
    generalize hbl : w.heap.size = bl at hd
    have HBN : Hid (w.heap.size ≤ B ∧ w.heap.size ≤ bl ∧ w.heap.size ≤ bm) := Lib.hid (by omega)
    have HB2 := Lib.hid hb
    have HLY := Lib.hid (lay_any hd a1)
    clear hB hbm hbl hd hb HNEW
    go_wp2_with fail
    refine (HLY.out).mono ?_
    rintro e w3 ⟨rfl, hd, ho⟩
    have HC := Lib.hid (Mt.calm_lay HCN.out a1.data.toList)
    have HD := Lib.hid hd
    have HB3 := Lib.hid (HB2.out.trans (ho.toBelow (by intro k hk; simp at hk; have := HBN.out; omega) HB2.out.size))
    generalize dn.lay a1.data.toList = d at *
    clear hd ho HLY HCN w1 HB2
    by_cases h4 : d.lasts.length < 4
    · have HOP := Lib.hid (open_small HD.out h4)
      clear h4
      go_wp2_with fail
      refine (HOP.out).mono ?_
      rintro e w4 ⟨rfl, rfl⟩
      go_wp2_with fail
      refine (HAW.out _).mono ?_
      rintro e w5 ⟨rfl, hb⟩
      have HB5 := Lib.hid (HB3.out.trans (hb.mono HB3.out.size))
      clear hb
      go_wp2_with fail
      refine (HAW.out _).mono ?_
      rintro e w6 ⟨rfl, hb⟩
      have HB6 := Lib.hid (HB5.out.trans (hb.mono HB5.out.size))
      clear hb
      go_wp2_with fail
      go_ret
      exact ⟨rfl, HB6.out⟩
    · have h4' : 4 ≤ d.lasts.length := by omega
      have HOP := Lib.hid (open_on HD.out h4' HC.out.off)
      have HTW := Lib.hid (Mt.twice HC.out h4')
      have H4 := Lib.hid h4'
      clear h4 h4'
      go_wp2_with fail
      refine (HOP.out).mono ?_
      rintro e w4 ⟨h1, h2, ho⟩
      have HB4 := Lib.hid (HB3.out.trans (ho.toBelow (by intro k hk; simp at hk; have := HBN.out; omega) HB3.out.size))
      rcases HTW.out.1 with hE | hE
      · obtain ⟨J, x, j', hJ, rfl, hx, hj, hl⟩ := h1 hE
        obtain rfl := hl.eq
        obtain ⟨hc1, hl1, hcount, hrec, hgen⟩ := HTW.out.2 hE
        have HOK2 := Lib.hid (And.intro hc1.off (show 4 ≤ (Mt.openJ d).1.lasts.length by rw [hl1]; exact H4.out))
        have HRL := Lib.hid (Mt.findJ_recs d HC.out.ok.most).2
        have HREC := Lib.hid hrec
        have HGEN := Lib.hid hgen
        have HJ4 := Lib.hid hj
        have HX4 := Lib.hid hx
        have HCT := Lib.hid hcount
        clear h1 h2 ho hE hJ hl hc1 hl1 hcount hrec hgen HOP HTW H4 HC HD hj
        generalize (Mt.openJ d).1 = e1 at *
        generalize (Mt.openJ d).2.1 = j1 at *
        generalize (Mt.findJ d).2 = recs at *
        obtain ⟨a2, c2, rfl, -⟩ := hx.open
        clear hx
        go_wp2_with fail
        refine (HAW.out _).mono ?_
        rintro e w5 ⟨rfl, hb⟩
        have HB5 := Lib.hid (HB4.out.trans (hb.mono HB4.out.size))
        have HJ5 := Lib.hid (HJ4.out.below hb)
        have HX5 := Lib.hid (HX4.out.below hb)
        have HLN := Lib.hid (len_any HJ5.out.jn)
        rw [HCT.out] at HLN
        clear hb HJ4 HX4
        obtain ⟨m, hm⟩ : ∃ m : Nat, recs.length = m := ⟨_, rfl⟩
        have HM := Lib.hid hm
        rw [hm] at HLN ⊢
        have k1 : ((m : Int) == (m : Int)) = true := by simp
        have k2 : ((m : Int) != (m : Int)) = false := by simp
        clear hm
        go_wp2_with fail
        refine (HLN.out).mono ?_
        rintro e w6 ⟨rfl, rfl⟩
        have HO2 := Lib.hid (open_on HJ5.out.dk HOK2.out.2 HOK2.out.1)
        clear HLN
        go_wp2_with fail
        refine (HO2.out).mono ?_
        rintro e w6 ⟨h1, h2, ho⟩
        have HB6 := Lib.hid (HB5.out.trans (ho.toBelow (by intro k hk; simp at hk; have := HBN.out; omega) HB5.out.size))
        have hne := HJ5.out.neJ
        have HI6 : Hid (IsJ w6 J B j1) := Lib.hid ((ho.block _ HJ5.out.lt.1 (by simp; omega)).trans HJ5.out.jn)
        have HX6 := Lib.hid (IsTs.only HJ5.out HX5.out (ho.mono (by intro k hk; simp at hk ⊢; omega)))
        have HG1 := Lib.hid (gen_any HI6.out HJ5.out.gen)
        rcases HGEN.out with ⟨hE, hg⟩ | ⟨hE, hg⟩
        · obtain ⟨K, x, j', hK, rfl, hx, hj, hl⟩ := h1 hE
          obtain rfl := hl.eq
          rw [HREC.out] at hx
          have HX7 := Lib.hid hx
          have HK7 := Lib.hid hj
          have HSM := Lib.hid (same6_any HX6.out hx (by have := HRL.out; omega) (by have := HRL.out; omega))
          obtain ⟨a3, c3, rfl, -⟩ := hx.open
          rw [HM.out] at HSM ⊢
          rw [show decide (recs = recs) = true from decide_eq_true rfl] at HSM
          have HGG := Lib.hid hg
          clear h1 h2 ho hne hE hK hx hj hl hg HO2 HX5 HREC
          go_wp2_with fail
          refine (HSM.out).mono ?_
          rintro e w7 ⟨rfl, hb⟩
          have HB7 := Lib.hid (HB6.out.trans (hb.mono HB6.out.size))
          have HG2 := Lib.hid (gen_any (HK7.out.below hb).jn (HK7.out.gen))
          have HG3 := Lib.hid (gen_any (HI6.out.below hb) HJ5.out.gen)
          rw [HGG.out] at HG2
          have hgl := HJ5.out.gen
          obtain ⟨g, hg⟩ : ∃ g, j1.gen = g := ⟨_, rfl⟩
          obtain ⟨g', hg'⟩ : ∃ g', g + 1 = g' := ⟨_, rfl⟩
          rw [hg, hg'] at HG2
          rw [hg] at HG3 hgl
          have v1 : IntKind.i64.wrap ((g : Int) + 1) = (g' : Int) := by rw [IntWalk.i64_in _ (by omega)]; omega
          have v2 : ((g' : Int) == (g' : Int)) = true := by simp
          clear hb HG1 HSM hgl hg hg'
          go_wp2_with fail
          refine (HG2.out).mono ?_
          rintro e w8 ⟨rfl, rfl⟩
          go_wp2_with fail
          refine (HG3.out).mono ?_
          rintro e w8 ⟨rfl, rfl⟩
          go_wp2_with fail
          go_ret
          exact ⟨rfl, HB7.out⟩
        · obtain ⟨rfl, hd⟩ := h2 (by rw [hE]; decide)
          rw [hE]
          rw [hg] at HG1
          have HG1' : Hid (Calls Try.prog 14 #[.pointer (some ⟨J, 0, none⟩)] w6 fun e w' => e = .returned (.int .i64 4294967295) ∧ w6 = w') := Lib.hid HG1.out
          clear h1 h2 ho hne hE hg hd HO2 HG1
          go_wp2_with fail
          refine (HG1'.out).mono ?_
          rintro e w7 ⟨rfl, rfl⟩
          go_wp2_with fail
          go_ret
          exact ⟨rfl, HB6.out⟩
      · obtain ⟨rfl, hd⟩ := h2 (by rw [hE]; decide)
        rw [hE]
        clear h1 h2 ho hE hd HOP HTW
        go_wp2_with fail
        refine (HAW.out _).mono ?_
        rintro e w5 ⟨rfl, hb⟩
        have HB5 := Lib.hid (HB4.out.trans (hb.mono HB4.out.size))
        clear hb
        go_wp2_with fail
        refine (HAW.out _).mono ?_
        rintro e w6 ⟨rfl, hb⟩
        have HB6 := Lib.hid (HB5.out.trans (hb.mono HB5.out.size))
        clear hb
        go_wp2_with fail
        go_ret
        exact ⟨rfl, HB6.out⟩

/-! The step from the walk to the row. -/
theorem own : ownKnob Try.prog.godebug = none := by kernel_rfl
theorem laidOut : laidOutB Try.prog = true := by kernel_rfl

set_option maxRecDepth 100000 in
theorem lifted (os : Os) (started : os.Started) (H : Type) (enc : TypeId × Value → H) :
    ReturnsInHanded {} Try.checked os 4 .any (Rows.journalTwiceSpec.pre6 enc Try.prog Try.f4 Rows.journalTwiceRow.domain false) (Rows.journalTwiceSpec.post enc Try.prog Try.f4 false true false false) := by
  refine returnsInHanded_of_change_sized (C := Try.checked) own started (by kernel_rfl) Try.func4
    (ChangeSpec.witness6 (enc := enc) (C := Try.checked) false ⟨#[], #[.int .i64 0, .string .empty], []⟩ 8 (by kernel_rfl) (by kernel_rfl) (by kernel_rfl) (by kernel_rfl)) ?_
  intro W base args ds gs before hval0 hW _ hsz0 _
  have hsz : (DataW.weightsEach Try.prog (Try.f4.params.toList ++ Rows.journalTwiceSpec.plain.varTypes Try.prog) (ds ++ gs)).all (· ≤ reachBytes) = true := hsz0
  have hval : ∀ (j : Nat) t v, Try.f4.params[j]? = some t → args[j]? = some v → Value.okWide Try.prog W .any base t v := hval0
  have hW' := hW
  obtain ⟨p, q, hA0, hV, rfl, _, _⟩ := hW
  have hA : DataW.TrodAll enc Try.prog W 0 (fun _ => true) true Try.f4.params.toList args.toList ds p := hA0
  rw [Try.params4] at hA hval hsz
  obtain ⟨v0, vs0, d0, ds0, p0, q0, hargs, rfl, rfl, h0, r0⟩ := trodAll_cons hA
  obtain ⟨v1, vs1, d1, ds1, p1, q1, rfl, rfl, rfl, h1, r1⟩ := trodAll_cons r0
  obtain ⟨rfl, rfl, rfl⟩ := trodAll_nil r1
  obtain rfl : args = #[v0, v1] := by cases args; simp_all
  obtain ⟨rfl, rfl⟩ := trodVars_none hV
  obtain ⟨a0, rfl, rfl, rfl, w0⟩ := open_int Try.underlying3 (hval 0 3 v0 rfl rfl) h0
  obtain ⟨a1, rfl, rfl, rfl, m1⟩ := open_string Try.underlying9 (hval 1 9 v1 rfl rfl) h1
  have w1 : a1.size ≤ 140737488351232 := by
    have h : a1.data.toList.length ≤ reachBytes := sized_string hsz (j := 1) (t := 9) rfl rfl
    simpa [reachBytes] using h
  clear hA0 hval0
  simp only [List.append_nil] at hW'
  refine (walk a0 a1 w0 w1 W ).mono fun e W' ⟨he, bel⟩ => ?_
  subst he
  exact ⟨_, rfl, _, _, _, [], _, [], hW', trodAll_mk1 (shut_bool Try.underlying4 _), (trodAll_cons_mk (shut_int Try.underlying3 w0) (trodAll_cons_mk (shut_string Try.underlying9 m1) trodAll_mk0)), rfl, bel.frame _, fun h => by cases h⟩

theorem proved : Rows.JournalTwiceSaid :=
  OpenClaim.holds_of_wide 4 Try.f4 rfl rfl rfl rfl rfl rfl rfl ⟨rfl, rfl, rfl, rfl, rfl⟩ rfl rfl rfl rfl rfl (by kernel_rfl) Try.func4 (by kernel_rfl)
    (of_decide_eq_true (by kernel_rfl)) (by unfold Func.isWrapper; first | (rw [if_pos (by decide +kernel)]; kernel_rfl) | (rw [if_neg (by decide +kernel)]; exact ⟨rfl, rfl⟩))
    (fun os started H enc _ => lifted os started H enc)

#print axioms proved
end Go.Proofs.Ytmahkgkhnpffeaa.journalTwice
