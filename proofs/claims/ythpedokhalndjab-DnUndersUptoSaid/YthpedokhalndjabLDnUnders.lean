/-
  DnUnders is proved: whether any name lies under another one; also under its own last RDNs, and with more ahead. Condition: names of a bulk of at most 1048576.
-/
import Derived.Test.YthpedokhalndjabRows
import Derived.Test.YthpedokhalndjabDnO
import Derived.Test.YthpedokhalndjabDnW
import Derived.ProofKit
import Derived.OpenShut
import Derived.ShutString
import Derived.SizedLaws
namespace Go.Proofs.Ythpedokhalndjab.dnUnders
open Go.ChangeShapes Go.WideShapes Go.ChangeAt Go.RowKit
open Go.ChangeMaps (open_string shut_string)
set_option linter.unusedVariables false

set_option maxRecDepth 100000 in
set_option maxHeartbeats 4000000 in
theorem walk (d : List (List Mt.Av)) (a : Option Addr) (n c : Nat) (base : List (List Mt.Av)) (a2 : Option Addr) (n2 c2 : Nat) (at' : Int) (hf : Mt.FitD d) (hl : d.length ≤ 1048576) (hf2 : Mt.FitD base) (hl2 : base.length ≤ 1048576) (hat : (Lit.int .i64 at').wf = true) (w : World) (hv : IsDn w (.slice a n c) d) (hv2 : IsDn w (.slice a2 n2 c2) base) :
    Calls Try.prog 7 #[.slice a n c, .slice a2 n2 c2, .int .i64 at'] w fun e w' => e = .returned (.bool true) ∧ Below w.heap.size w w' := by
  obtain ⟨rfl, hc1, -⟩ := hv.len
  obtain ⟨rfl, hc2, -⟩ := hv2.len
  have HV := Lib.hid hv
  have HV2 := Lib.hid hv2
  have HS : Hid (∀ r ∈ d, ∀ a ∈ r, a.1.length ≤ 140737488351232) := Lib.hid (fun r hr a ha => ((hf.2 r hr).2 a ha).1)
  have HS2 : Hid (∀ r ∈ base, ∀ a ∈ r, a.1.length ≤ 140737488351232) := Lib.hid (fun r hr a ha => ((hf2.2 r hr).2 a ha).1)
  have HSJ : Hid (∀ r ∈ d ++ base, ∀ a ∈ r, a.1.length ≤ 140737488351232) := Lib.hid (fun r hr a ha => by
    rcases List.mem_append.1 hr with hr | hr
    · exact HS.out r hr a ha
    · exact HS2.out r hr a ha)
  have HU := Lib.hid (under_any hv hv2)
  have HRU := Lib.hid (fun (u : World) (hu : Below w.heap.size w u) => runder_any (hv.below hu) (hv2.below hu) HS.out HS2.out)
  have HJ := Lib.hid (fun (u : World) (hu : Below w.heap.size w u) => join9_any (hv2.below hu) (hv.below hu) (by omega) (fun r hr => (hf2.2 r hr).1) (fun r hr => (hf.2 r hr).1))
  have HP := Lib.hid (fun (u : World) (hu : Below w.heap.size w u) => rprint_any (hv.below hu) HS.out)
  have HA := Lib.hid (fun u => awake9_any u)
  obtain ⟨K, hK, hKe⟩ := cutat9 d.length at' hl
  obtain ⟨r, t, hrt, ht0⟩ : ∃ (r : ByteArray) (t : Nat), textV (Mt.printD d) = .tuple #[.string r, .int .i64 t] ∧ ((t : Int) == 0) = Mt.okD d := by
    unfold Mt.okD
    cases hp : Mt.printD d with
    | error e => exact ⟨_, e, rfl, by have := Mt.print_err hp; simp; omega⟩
    | ok x => exact ⟨_, 0, rfl, rfl⟩
  obtain ⟨r2, t2, hrt2, ht2⟩ : ∃ (r : ByteArray) (t : Nat), textV (Mt.printD (d ++ base)) = .tuple #[.string r, .int .i64 t] ∧ ((t : Int) == 0) = Mt.okD (d ++ base) := by
    unfold Mt.okD
    cases hp : Mt.printD (d ++ base) with
    | error e => exact ⟨_, e, rfl, by have := Mt.print_err hp; simp; omega⟩
    | ok x => exact ⟨_, 0, rfl, rfl⟩
  simp only [hrt] at HP
  have HRT2 := Lib.hid hrt2
  obtain ⟨aK, haK⟩ : ∃ x, (if c = K then a else Option.map (fun x => x.add K) a) = x := ⟨_, rfl⟩
  have HVK := Lib.hid (hv.drop' hK haK)
  have HUK := Lib.hid (fun (u : World) (hu : Below w.heap.size w u) => under_any (hv.below hu) (HVK.out.below hu))
  rw [Mt.under_drop d K hK] at HUK
  obtain ⟨z0, hz0⟩ : ∃ z, Mt.underD d base = z := ⟨_, rfl⟩
  obtain ⟨z1, hz1⟩ : ∃ z, Mt.okD d = z := ⟨_, rfl⟩
  obtain ⟨z2, hz2⟩ : ∃ z, Mt.okD (d ++ base) = z := ⟨_, rfl⟩
  rw [hz0] at HU
  simp only [hz0] at HRU
  simp only [hz1] at HUK
  rw [hz1] at ht0
  rw [hz2] at ht2
  have HZ2 := Lib.hid hz2
  have hne : (z0 != z0) = false := by cases z0 <;> rfl
  have he1 : (z1 == z1) = true := by cases z1 <;> rfl
  have he2 : (z2 == z2) = true := by cases z2 <;> rfl
  have HKE := Lib.hid hKe
  have HL := Lib.hid (And.intro hl hl2)
  clear hf hf2 hv hv2 hrt hrt2 hz0 hz1 hz2 hKe hl hl2
  go_enter Try.func7, Try.ntmps7
  go_wp2_with fail
  refine (HU.out).mono ?_
  rintro e w2 ⟨rfl, hb⟩
  have HRU2 := Lib.hid (HRU.out _ hb)
  have HB := Lib.hid hb
  clear hb
  go_wp2_with fail
  refine (HRU2.out).mono ?_
  rintro e w3 ⟨rfl, hb⟩
  have HB3 := Lib.hid (HB.out.trans (hb.mono HB.out.size))
  have HJ3 := Lib.hid (HJ.out _ HB3.out)
  clear hb
  have hl' := HL.out.1
  go_upto_region 4 with fail
  rw [HKE.out]
  clear hl'
  go_wp2_with fail
  refine (HJ3.out).mono ?_
  rintro e w4 ⟨y, rfl, hy, hb⟩
  have HB4 := Lib.hid (HB3.out.trans (hb.mono HB3.out.size))
  have HY4 := Lib.hid hy
  obtain ⟨ja, jc, rfl, -, hjc, -⟩ := hy
  obtain ⟨jK, hjK⟩ : ∃ x, (if jc = d.length then ja else Option.map (fun x => x.add d.length) ja) = x := ⟨_, rfl⟩
  have HJK : Hid (IsDn w4 (.slice jK base.length (jc - d.length)) base) := Lib.hid (by
    have h := HY4.out.drop' (k := d.length) (by rw [List.length_append]; omega) hjK
    rw [List.drop_left, List.length_append, Nat.add_sub_cancel_left] at h
    exact h)
  have HJT : Hid (IsDn w4 (.slice ja d.length jc) d) := Lib.hid (by
    have h := HY4.out.take (k := d.length) (by rw [List.length_append]; omega)
    rw [List.take_left] at h
    exact h)
  have HP4 := Lib.hid (HP.out _ HB4.out)
  rw [List.length_append] at HY4 hjc ⊢
  obtain ⟨N, hN⟩ : ∃ N, d.length + base.length = N := ⟨_, rfl⟩
  rw [hN] at HY4 hjc ⊢
  have hNi : (d.length : Int) + (base.length : Int) = (N : Int) := by omega
  have hNb : N ≤ 2097152 := by have := HL.out; omega
  have hNd : d.length ≤ N := by omega
  have hNs : N - d.length = base.length := by omega
  clear hb hN hat
  go_wp2_with fail
  refine (HP4.out).mono ?_
  rintro e w5 ⟨rfl, hb⟩
  have HB5 := Lib.hid (HB4.out.trans (hb.mono HB4.out.size))
  have HY5 := Lib.hid (HY4.out.below hb)
  have HJK5 := Lib.hid (HJK.out.below hb)
  have HJT5 := Lib.hid (HJT.out.below hb)
  have HPJ := Lib.hid (rprint_any HY5.out HSJ.out)
  rw [HRT2.out] at HPJ
  clear hb
  go_wp2_with fail
  refine (HPJ.out).mono ?_
  rintro e w6 ⟨rfl, hb⟩
  have HB6 := Lib.hid (HB5.out.trans (hb.mono HB5.out.size))
  have HY6 := Lib.hid (HY5.out.below hb)
  have HJK6 := Lib.hid (HJK5.out.below hb)
  have HJT6 := Lib.hid (HJT5.out.below hb)
  clear hb
  go_wp2_with fail
  refine (HA.out _).mono ?_
  rintro e w7 ⟨rfl, hb⟩
  have HB7 := Lib.hid (HB6.out.trans (hb.mono HB6.out.size))
  have HY7 := Lib.hid (HY6.out.below hb)
  have HJK7 := Lib.hid (HJK6.out.below hb)
  have HJT7 := Lib.hid (HJT6.out.below hb)
  have HUK7 := Lib.hid (HUK.out _ HB7.out)
  clear hb
  go_wp2_with fail
  refine (HUK7.out).mono ?_
  rintro e w8 ⟨rfl, hb⟩
  have HB8 := Lib.hid (HB7.out.trans (hb.mono HB7.out.size))
  have HJK8 := Lib.hid (HJK7.out.below hb)
  have HJT8 := Lib.hid (HJT7.out.below hb)
  have HUJ := Lib.hid (under_any (HY7.out.below hb) (HV2.out.below HB8.out))
  rw [Mt.under_join, HZ2.out] at HUJ
  clear hb
  go_wp2_with fail
  refine (HUJ.out).mono ?_
  rintro e w9 ⟨rfl, hb⟩
  have HB9 := Lib.hid (HB8.out.trans (hb.mono HB8.out.size))
  have HJT9 := Lib.hid (HJT8.out.below hb)
  have HSM := Lib.hid (same9_any (HJK8.out.below hb) (HV2.out.below HB9.out))
  rw [decide_eq_true rfl] at HSM
  clear hb
  go_wp2_with fail
  refine (HSM.out).mono ?_
  rintro e w10 ⟨rfl, hb⟩
  have HB10 := Lib.hid (HB9.out.trans (hb.mono HB9.out.size))
  have HSM2 := Lib.hid (same9_any (HJT9.out.below hb) (HV.out.below HB10.out))
  rw [decide_eq_true rfl] at HSM2
  clear hb
  go_wp2_with fail
  refine (HSM2.out).mono ?_
  rintro e w11 ⟨rfl, hb⟩
  have HB11 := Lib.hid (HB10.out.trans (hb.mono HB10.out.size))
  clear hb
  go_wp2_with fail
  go_ret
  exact ⟨rfl, HB11.out⟩

/-! The step from the walk to the row. -/
theorem own : ownKnob Try.prog.godebug = none := by kernel_rfl
theorem laidOut : laidOutB Try.prog = true := by kernel_rfl

set_option maxRecDepth 100000 in
theorem lifted (os : Os) (started : os.Started) (H : Type) (enc : TypeId × Value → H) (F : Stop.Interp) :
    ReturnsInHanded {} Try.checked os 7 .any ((Rows.OpenSpec.upto Rows.dnUndersSpec).pre6 enc Try.prog Try.f7 Rows.dnUndersUptoRow.domain false) (((Rows.OpenSpec.upto Rows.dnUndersSpec).at F).post enc Try.prog Try.f7 false true false false) := by
  refine returnsInHanded_of_cond_sized (C := Try.checked) (s := Rows.OpenSpec.upto Rows.dnUndersSpec) (k := Rows.uptoSmall) rfl own started (by kernel_rfl) Try.func7
    (OpenSpec.witness (enc := enc) (C := Try.checked) (s := Rows.OpenSpec.upto Rows.dnUndersSpec) (k := Rows.uptoSmall) rfl false ⟨#[], #[.slice none 0 0, .slice none 0 0, .int .i64 0], []⟩ 8 (by kernel_rfl) (by kernel_rfl) (by kernel_rfl)
      (x := ([.nil, .nil, .lit (.int .i64 0)], [], [])) (by kernel_rfl) rfl (by kernel_rfl)) ?_
  intro W base args ds gs before hval0 hW _ hk hsz0 _
  have hsz : (DataW.weightsEach Try.prog (Try.f7.params.toList ++ Rows.dnUndersSpec.plain.varTypes Try.prog) (ds ++ gs)).all (· ≤ reachBytes) = true := hsz0
  have hval : ∀ (j : Nat) t v, Try.f7.params[j]? = some t → args[j]? = some v → Value.okWide Try.prog W .any base t v := hval0
  have hW' := hW
  obtain ⟨p, q, hA0, hV, rfl, _, _⟩ := hW
  have hA : DataW.TrodAll enc Try.prog W 0 (fun _ => true) true Try.f7.params.toList args.toList ds p := hA0
  rw [Try.params7] at hA hval hsz
  obtain ⟨v0, vs0, d0, ds0, p0, q0, hargs, rfl, rfl, h0, r0⟩ := trodAll_cons hA
  obtain ⟨v1, vs1, d1, ds1, p1, q1, rfl, rfl, rfl, h1, r1⟩ := trodAll_cons r0
  obtain ⟨v2, vs2, d2, ds2, p2, q2, rfl, rfl, rfl, h2, r2⟩ := trodAll_cons r1
  obtain ⟨rfl, rfl, rfl⟩ := trodAll_nil r2
  obtain rfl : args = #[v0, v1, v2] := by cases args; simp_all
  obtain ⟨rfl, rfl⟩ := trodVars_none hV
  obtain ⟨a0, n0, c0, rfl⟩ := okWide_slice Try.underlying43 (hval 0 43 v0 rfl rfl)
  have k0 := h0
  have lt0 : ∀ x ∈ p0, x.block < W.heap.size := by obtain ⟨m, hm⟩ := k0; exact DataW.trod_lt m _ _ _ hm
  obtain ⟨D0, w0, z0, y0⟩ := open_dnS (j := 0) h0 rfl rfl hsz hk
  obtain ⟨a1, n1, c1, rfl⟩ := okWide_slice Try.underlying43 (hval 1 43 v1 rfl rfl)
  have k1 := h1
  have lt1 : ∀ x ∈ p1, x.block < W.heap.size := by obtain ⟨m, hm⟩ := k1; exact DataW.trod_lt m _ _ _ hm
  obtain ⟨D1, w1, z1, y1⟩ := open_dnS (j := 1) h1 rfl rfl hsz hk
  obtain ⟨a2, rfl, rfl, rfl, w2⟩ := open_int Try.underlying3 (hval 2 3 v2 rfl rfl) h2
  clear hA0 hval0
  simp only [List.append_nil] at hW'
  refine (walk D0 a0 n0 c0 D1 a1 n1 c1 a2 z0 y0 z1 y1 w2 W w0 w1).mono fun e W' ⟨he, bel⟩ => ?_
  subst he
  exact ⟨_, rfl, _, _, _, [], _, [], hW', trodAll_mk1 (shut_bool Try.underlying4 _), (trodAll_cons_mk (Below.trod laidOut (by kernel_rfl) (of_decide_eq_true (by kernel_rfl)) k0 bel lt0) (trodAll_cons_mk (Below.trod laidOut (by kernel_rfl) (of_decide_eq_true (by kernel_rfl)) k1 bel lt1) (trodAll_cons_mk (shut_int Try.underlying3 w2) trodAll_mk0))), rfl, bel.frame _, fun h => by cases h⟩

theorem proved : Rows.DnUndersUptoSaid :=
  OpenClaim.holds_of_cond 7 Try.f7 rfl rfl rfl rfl rfl rfl rfl ⟨rfl, rfl, rfl, rfl, rfl⟩ rfl rfl rfl rfl rfl (by kernel_rfl) Try.func7 (by kernel_rfl)
    (of_decide_eq_true (by kernel_rfl)) (by unfold Func.isWrapper; first | (rw [if_pos (by decide +kernel)]; kernel_rfl) | (rw [if_neg (by decide +kernel)]; exact ⟨rfl, rfl⟩))
    (fun os started H enc _ F => lifted os started H enc F)

#print axioms proved
end Go.Proofs.Ythpedokhalndjab.dnUnders
