/-
  SchemaWants is proved: what must be there and what may, of any classes, and which is the structural one. Condition: what comes in is of a bulk of at most 1048576.
-/
import Derived.Test.YtkinemlgifeimaaRows
import Derived.ProofKit
import Derived.Deep.CondSized
import Derived.OpenShut
import Derived.ShutString
import Derived.SizedLaws
import Derived.Test.YtkinemlgifeimaaPk16
import Derived.Test.YtkinemlgifeimaaPk30
namespace Go.Proofs.Ytkinemlgifeimaa.schemaWants
open Go.ChangeShapes Go.WideShapes Go.ChangeAt Go.RowKit
open Go.ChangeMaps (open_string shut_string)
set_option linter.unusedVariables false

set_option maxRecDepth 100000 in
set_option maxHeartbeats 4000000 in
theorem walk (s : Mt.Sc) (tv cv : Value) (l1 : List (List UInt8)) (v1 : Value) (hz : ∀ c ∈ s.classes, c.must.length + c.may.length ≤ 1048576) (hf1 : FitN l1) (w : World) (h : IsSc w tv cv s) (h1 : IsNms w v1 l1) :
    Calls Try.prog 5 #[.agg #[tv, cv], v1] w fun e w' => e = .returned (.bool true) ∧ Below w.heap.size w w' := by
  have HA := Lib.hid (fun u => awake13_any u)
  have HSM := Lib.hid (fun (u : World) (hb : Below w.heap.size w u) => small13_any (h.below hb) (fun c hc => Nat.le_trans (hz c hc) (by decide)))
  have HWT := Lib.hid (fun (hk : Mt.chk s = 0) (u : World) (hb : Below w.heap.size w u) => wants13_any (h.below hb) (h1.below hb) hf1 (Mt.chk_names hk) (by rw [List.length_map]; have := (Mt.chk_len hk).1; omega))
  have HWD := Lib.hid (fun (hk : Mt.chk s = 0) (u : World) (hb : Below w.heap.size w u) => rwants13_any (h.below hb) (h1.below hb) hf1 hk)
  have HKP := Lib.hid (fun (u : World) (hb : Below w.heap.size w u) => kind13_any (h.below hb) (h1.below hb) hf1)
  have HKD := Lib.hid (fun (hk : Mt.chk s = 0) (u : World) (hb : Below w.heap.size w u) => rkind13_any (h.below hb) (h1.below hb) hf1 hk)
  have HIN := Lib.hid (fun (hk : Mt.chk s = 0) => Mt.wants_in (Mt.chk_names hk) l1)
  have HTL : Hid (Mt.chk s = 0 → (s.types.map fun t => Mt.foldL t.name).length ≤ 128) := Lib.hid (fun hk => by rw [List.length_map]; exact (Mt.chk_len hk).1)
  have HS0 : Hid (Mt.smallS s = true → Mt.chk s = 0) := Lib.hid (fun hh => by
    unfold Mt.smallS at hh
    simp only [Bool.and_eq_true, decide_eq_true_eq] at hh
    exact hh.2)
  obtain ⟨S, hS⟩ : ∃ S, Mt.smallS s = S := ⟨_, rfl⟩
  rw [hS] at HSM HS0
  obtain ⟨KS, hKS⟩ : ∃ K, Mt.kindS s l1 = K := ⟨_, rfl⟩
  rw [hKS] at HKP HKD
  have hKV : kindV KS = .tuple #[.string (Mt.str KS.1), .bool KS.2] := rfl
  rw [hKV] at HKP HKD
  obtain ⟨KN, hKN⟩ : ∃ x, Mt.str KS.1 = x := ⟨_, rfl⟩
  obtain ⟨KB, hKB⟩ : ∃ x, KS.2 = x := ⟨_, rfl⟩
  rw [hKN, hKB] at HKP HKD
  obtain ⟨WS, hWS⟩ : ∃ W, Mt.wantsS s l1 = W := ⟨_, rfl⟩
  rw [hWS] at HWT HWD HIN
  obtain ⟨a1, c1, rfl, hc1, -⟩ := id h1
  have hb1 := hf1.1
  obtain ⟨n1, hn1⟩ : ∃ n, l1.length = n := ⟨_, rfl⟩
  rw [hn1] at hc1 hb1 HWT HWD HKP HKD ⊢
  obtain ⟨w1, hw1⟩ : ∃ w1, w.alloc (.cells #[tv, cv] 25) = w1 := ⟨_, rfl⟩
  have hA1 : Below w.heap.size w w1 := by rw [← hw1]; exact (Below.refl _ w).alloc (Nat.le_refl _) _
  have hs1 : w1.heap.size = w.heap.size + 1 := by rw [← hw1]; simp
  have hx1 : w1.heap[w.heap.size]? = some (.cells #[tv, cv] 25) := by rw [← hw1]; exact heap_alloc_new w _
  have HA1 := Lib.hid hA1
  have HP : Hid (∀ u, Below w1.heap.size w1 u → (u.cell? ⟨w.heap.size, 0, none⟩ = some tv ∧ u.cell? ⟨w.heap.size, 1, none⟩ = some cv) ∧ Below w.heap.size w u) := Lib.hid (fun u hu => by
    have r1 := (hu.block w.heap.size (by omega)).trans hx1
    exact ⟨⟨by rw [cell_of_row _ _ _ _ _ _ r1]; rfl, by rw [cell_of_row _ _ _ _ _ _ r1]; rfl⟩, hA1.trans (hu.mono hA1.size)⟩)
  obtain ⟨p0, p1⟩ := (HP.out w1 (Below.refl _ _)).1
  clear h hx1 hA1 hz hS h1 hf1 hn1 hKS hKV hKN hKB hWS
  cases S with
  | false =>
    go_enter Try.func5, Try.ntmps5
    go_wp2_with fail
    refine (HSM.out _ HA1.out).mono ?_
    rintro e w2 ⟨rfl, hb⟩
    have HB2 := Lib.hid (HA1.out.trans (hb.mono HA1.out.size))
    clear hb
    go_wp2_with fail
    refine (HA.out _).mono ?_
    rintro e w3 ⟨rfl, hb⟩
    have HB3 := Lib.hid (HB2.out.trans (hb.mono HB2.out.size))
    clear hb
    go_wp2_with fail
    all_goals (go_ret; exact ⟨rfl, HB3.out⟩)
  | true =>
    have HK0 := Lib.hid (HS0.out rfl)
    clear HS0
    by_cases h20 : 20 < n1
    · have d1 : decide ((20 : Int) < (n1 : Int)) = true := decide_eq_true (by omega)
      have d2 : decide (20 < n1) = true := decide_eq_true h20
      go_enter Try.func5, Try.ntmps5
      go_wp2_with fail
      refine (HSM.out _ HA1.out).mono ?_
      rintro e w2 ⟨rfl, hb⟩
      have HB2 := Lib.hid (HA1.out.trans (hb.mono HA1.out.size))
      clear hb
      go_wp2_with fail
      refine (HA.out _).mono ?_
      rintro e w3 ⟨rfl, hb⟩
      have HB3 := Lib.hid (HB2.out.trans (hb.mono HB2.out.size))
      clear hb
      go_wp2_with fail
      all_goals (go_ret; exact ⟨rfl, HB3.out⟩)
    have d1 : decide ((20 : Int) < (n1 : Int)) = false := decide_eq_false (by omega)
    have d2 : decide (20 < n1) = false := decide_eq_false h20
    clear h20
    have HI1 := Lib.hid (HIN.out HK0.out)
    have HL1 := Lib.hid (HTL.out HK0.out)
    have HWT1 := Lib.hid (HWT.out HK0.out)
    have HWD1 := Lib.hid (HWD.out HK0.out)
    have HKD1 := Lib.hid (HKD.out HK0.out)
    clear HIN HTL HWT HWD HKD
    go_enter Try.func5, Try.ntmps5
    go_wp2_with fail
    refine (HSM.out _ HA1.out).mono ?_
    rintro e w2 ⟨rfl, hb⟩
    have HW2 : Hid (Below w1.heap.size w1 w2) := Lib.hid hb
    clear hb p0 p1
    obtain ⟨⟨p0, p1⟩, hB⟩ := HP.out w2 HW2.out
    have HB2 := Lib.hid hB
    clear hB
    go_wp2_with fail
    refine (HWT1.out _ HB2.out).mono ?_
    rintro e w3 ⟨x1, y1, rfl, hx1, hy1, hb⟩
    have HW3 := Lib.hid (HW2.out.trans (hb.mono HW2.out.size))
    have HX1 := Lib.hid (And.intro hx1 hy1)
    clear hb p0 p1 hx1 hy1
    obtain ⟨⟨p0, p1⟩, hB⟩ := HP.out w3 HW3.out
    have HB3 := Lib.hid hB
    clear hB
    go_wp2_with fail
    refine (HWD1.out _ HB3.out).mono ?_
    rintro e w4 ⟨x2, y2, rfl, hx2, hy2, hb⟩
    have HW4 := Lib.hid (HW3.out.trans (hb.mono HW3.out.size))
    have HX2 := Lib.hid (And.intro hx2 hy2)
    have HX14 := Lib.hid (And.intro (HX1.out.1.below hb) (HX1.out.2.below hb))
    clear hb p0 p1 hx2 hy2 HX1
    obtain ⟨⟨p0, p1⟩, hB⟩ := HP.out w4 HW4.out
    have HB4 := Lib.hid hB
    clear hB
    go_wp2_with fail
    refine (HKP.out _ HB4.out).mono ?_
    rintro e w5 ⟨rfl, hb⟩
    have HW5 := Lib.hid (HW4.out.trans (hb.mono HW4.out.size))
    have HX5 := Lib.hid (And.intro (And.intro (HX14.out.1.below hb) (HX14.out.2.below hb)) (And.intro (HX2.out.1.below hb) (HX2.out.2.below hb)))
    clear hb p0 p1 HX14 HX2
    obtain ⟨⟨p0, p1⟩, hB⟩ := HP.out w5 HW5.out
    have HB5 := Lib.hid hB
    clear hB
    go_wp2_with fail
    refine (HKD1.out _ HB5.out).mono ?_
    rintro e w6 ⟨rfl, hb⟩
    have HB6 := Lib.hid (HB5.out.trans (hb.mono HB5.out.size))
    have HX6 := Lib.hid (And.intro (And.intro (HX5.out.1.1.below hb) (HX5.out.1.2.below hb)) (And.intro (HX5.out.2.1.below hb) (HX5.out.2.2.below hb)))
    clear hb p0 p1 HX5 HKP HKD1 HWT1 HWD1 HSM HP HW2 HW3 HW4 HW5
    have hl1 : WS.1.length ≤ 8796093022208 := Nat.le_trans HI1.out.2.1 (Nat.le_trans HL1.out (by decide))
    have hl2 : WS.2.length ≤ 8796093022208 := Nat.le_trans HI1.out.2.2 (Nat.le_trans HL1.out (by decide))
    go_wp2_with fail
    refine (HA.out _).mono ?_
    rintro e w7 ⟨rfl, hb⟩
    have HB7 := Lib.hid (HB6.out.trans (hb.mono HB6.out.size))
    have HS1 := Lib.hid (same13_any (HX6.out.1.1.below hb) (HX6.out.2.1.below hb) hl1)
    have HX7 := Lib.hid (And.intro (HX6.out.1.2.below hb) (HX6.out.2.2.below hb))
    rw [decide_eq_true (rfl : WS.1 = WS.1)] at HS1
    clear hb HX6 HA
    go_wp2_with fail
    refine (HS1.out).mono ?_
    rintro e w8 ⟨rfl, hb⟩
    have HB8 := Lib.hid (HB7.out.trans (hb.mono HB7.out.size))
    have HS2 := Lib.hid (same13_any (HX7.out.1.below hb) (HX7.out.2.below hb) hl2)
    rw [decide_eq_true (rfl : WS.2 = WS.2)] at HS2
    clear hb HX7 HS1
    go_wp2_with fail
    refine (HS2.out).mono ?_
    rintro e w9 ⟨rfl, hb⟩
    have HB9 := Lib.hid (HB8.out.trans (hb.mono HB8.out.size))
    clear hb HS2
    have e9 : (KN.toList == KN.toList) = true := beq_self_eq_true _
    go_wp2_with fail
    all_goals (go_ret; exact ⟨by first | rfl | simp, HB9.out⟩)

/-! The step from the walk to the row. -/
theorem own : ownKnob Try.prog.godebug = none := by kernel_rfl
theorem laidOut : laidOutB Try.prog = true := by kernel_rfl

set_option maxRecDepth 100000 in
theorem lifted (os : Os) (started : os.Started) (H : Type) (enc : TypeId × Value → H) (F : Stop.Interp) :
    ReturnsInHanded {} Try.checked os 5 .any ((Rows.OpenSpec.upto Rows.schemaWantsSpec).pre6 enc Try.prog Try.f5 Rows.schemaWantsUptoRow.domain false) (((Rows.OpenSpec.upto Rows.schemaWantsSpec).at F).post enc Try.prog Try.f5 false true false false) := by
  refine returnsInHanded_of_cond_sized (C := Try.checked) (s := Rows.OpenSpec.upto Rows.schemaWantsSpec) (k := Rows.uptoSmall) rfl own started (by kernel_rfl) Try.func5
    (OpenSpec.witness (enc := enc) (C := Try.checked) (s := Rows.OpenSpec.upto Rows.schemaWantsSpec) (k := Rows.uptoSmall) rfl false ⟨#[], #[.agg #[.slice none 0 0, .slice none 0 0], .slice none 0 0], []⟩ 8 (by kernel_rfl) (by kernel_rfl) (by kernel_rfl)
      (x := ([.agg [.nil, .nil], .nil], [], [])) (by kernel_rfl) rfl (by kernel_rfl)) ?_
  intro W base args ds gs before hval0 hW _ hk hsz0 _
  have hsz : (DataW.weightsEach Try.prog (Try.f5.params.toList ++ Rows.schemaWantsSpec.plain.varTypes Try.prog) (ds ++ gs)).all (· ≤ reachBytes) = true := hsz0
  have hval : ∀ (j : Nat) t v, Try.f5.params[j]? = some t → args[j]? = some v → Value.okWide Try.prog W .any base t v := hval0
  have hW' := hW
  obtain ⟨p, q, hA0, hV, rfl, _, _⟩ := hW
  have hA : DataW.TrodAll enc Try.prog W 0 (fun _ => true) true Try.f5.params.toList args.toList ds p := hA0
  rw [Try.params5] at hA hval hsz
  obtain ⟨v0, vs0, d0, ds0, p0, q0, hargs, rfl, rfl, h0, r0⟩ := trodAll_cons hA
  obtain ⟨v1, vs1, d1, ds1, p1, q1, rfl, rfl, rfl, h1, r1⟩ := trodAll_cons r0
  obtain ⟨rfl, rfl, rfl⟩ := trodAll_nil r1
  obtain rfl : args = #[v0, v1] := by cases args; simp_all
  obtain ⟨rfl, rfl⟩ := trodVars_none hV
  have k0 := h0
  have lt0 : ∀ x ∈ p0, x.block < W.heap.size := by obtain ⟨m, hm⟩ := k0; exact DataW.trod_lt m _ _ _ hm
  obtain ⟨tv0, cv0, s0, rfl, w0, z0⟩ := open_schS (j := 0) (hval 0 25 v0 rfl rfl) h0 rfl rfl hsz hk
  obtain ⟨a1, n1, c1, rfl⟩ := okWide_slice Try.underlying29 (hval 1 29 v1 rfl rfl)
  have k1 := h1
  have lt1 : ∀ x ∈ p1, x.block < W.heap.size := by obtain ⟨m, hm⟩ := k1; exact DataW.trod_lt m _ _ _ hm
  obtain ⟨l1, w1, z1⟩ := open_nmsA (j := 1) h1 rfl rfl hsz
  clear hA0 hval0
  simp only [List.append_nil] at hW'
  refine (walk s0 tv0 cv0 l1 (.slice a1 n1 c1) z0 z1 W w0 w1).mono fun e W' ⟨he, bel⟩ => ?_
  subst he
  exact ⟨_, rfl, _, _, _, [], _, [], hW', trodAll_mk1 (shut_bool Try.underlying4 _), (trodAll_cons_mk (Below.trod laidOut (by kernel_rfl) (of_decide_eq_true (by kernel_rfl)) k0 bel lt0) (trodAll_cons_mk (Below.trod laidOut (by kernel_rfl) (of_decide_eq_true (by kernel_rfl)) k1 bel lt1) trodAll_mk0)), rfl, bel.frame _, fun h => by cases h⟩

theorem proved : Rows.SchemaWantsUptoSaid :=
  OpenClaim.holds_of_cond 5 Try.f5 rfl rfl rfl rfl rfl rfl rfl ⟨rfl, rfl, rfl, rfl, rfl⟩ rfl rfl rfl rfl rfl (by kernel_rfl) Try.func5 (by kernel_rfl)
    (of_decide_eq_true (by kernel_rfl)) (by unfold Func.isWrapper; first | (rw [if_pos (by decide +kernel)]; kernel_rfl) | (rw [if_neg (by decide +kernel)]; exact ⟨rfl, rfl⟩))
    (fun os started H enc _ F => lifted os started H enc F)

#print axioms proved
end Go.Proofs.Ytkinemlgifeimaa.schemaWants
