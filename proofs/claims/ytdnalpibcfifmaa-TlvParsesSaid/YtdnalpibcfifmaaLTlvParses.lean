/-
  TlvParses is proved: any bytes: the element that they begin with, and what is behind it, or what is wrong first; and whether they are one element: as the document's answer says. No condition.
-/
import Derived.Test.YtdnalpibcfifmaaRows
import Derived.Test.YtdnalpibcfifmaaTvA
import Derived.Test.YtdnalpibcfifmaaTvMb
import Derived.ProofKit
import Derived.OpenShut
import Derived.ShutString
import Derived.SizedLaws
namespace Go.Proofs.Ytdnalpibcfifmaa.tlvParses
open Go.ChangeShapes Go.WideShapes Go.ChangeAt Go.RowKit
open Go.ChangeMaps (open_string shut_string)
set_option linter.unusedVariables false

def presN (l : List UInt8) : Mt.Nd := match Mt.parseL 64 l with | .error _ => .mk 0 [] [] | .ok (n, _) => n
def presR (l : List UInt8) : List UInt8 := match Mt.parseL 64 l with | .error _ => [] | .ok (_, r) => r
def presE (l : List UInt8) : Nat := match Mt.parseL 64 l with | .error e => e | .ok _ => 0
def wresN (l : List UInt8) : Mt.Nd := match Mt.wholeL l with | .error _ => .mk 0 [] [] | .ok n => n
def wresE (l : List UInt8) : Nat := match Mt.wholeL l with | .error e => e | .ok _ => 0
def PResP (w : World) (l : List UInt8) (x : Ending) (w' : World) : Prop :=
  ∃ t D a m c, x = .returned (.tuple #[.agg #[.int .i64 t, .string D, .slice a m c], .string (Mt.str (presR l)), .int .i64 (presE l : Int)]) ∧ Hid (IsNd w' (fun b => w.heap.size ≤ b) 64 (.agg #[.int .i64 t, .string D, .slice a m c]) (presN l) ∧ Below w.heap.size w w')
def WResP (w : World) (l : List UInt8) (x : Ending) (w' : World) : Prop :=
  ∃ t D a m c, x = .returned (.tuple #[.agg #[.int .i64 t, .string D, .slice a m c], .int .i64 (wresE l : Int)]) ∧ Hid (IsNd w' (fun b => w.heap.size ≤ b) 64 (.agg #[.int .i64 t, .string D, .slice a m c]) (wresN l) ∧ Below w.heap.size w w')
theorem zero_nd (w : World) (ok : Nat → Prop) : IsNd w ok 64 zeroN (.mk 0 [] []) :=
  ⟨none, 0, rfl, Nat.zero_le _, Nat.zero_le _, .inl rfl⟩
theorem parseR {w : World} {l : List UInt8} {x : Ending} {w' : World} (h : ParseP w 64 l x w') : PResP w l x w' := by
  obtain ⟨hb, h⟩ := h
  unfold PResP presN presR presE
  cases hp : Mt.parseL 64 l with
  | error e =>
    rw [hp] at h
    exact ⟨_, _, _, _, _, h, zero_nd _ _, hb⟩
  | ok q =>
    obtain ⟨n, r⟩ := q
    rw [hp] at h
    obtain ⟨v, hx, hn⟩ := h
    obtain ⟨a, c, rfl⟩ := hn.form
    exact ⟨_, _, _, _, _, hx, hn, hb⟩
theorem wholeR {w : World} {l : List UInt8} {x : Ending} {w' : World} (h : WholeP w l x w') : WResP w l x w' := by
  obtain ⟨hb, h⟩ := h
  unfold WResP wresN wresE
  cases hp : Mt.wholeL l with
  | error e =>
    rw [hp] at h
    exact ⟨_, _, _, _, _, h, zero_nd _ _, hb⟩
  | ok n =>
    rw [hp] at h
    obtain ⟨v, hx, hn⟩ := h
    obtain ⟨a, c, rfl⟩ := hn.form
    exact ⟨_, _, _, _, _, hx, hn, hb⟩

set_option maxRecDepth 100000 in
set_option maxHeartbeats 1000000 in
theorem walk (s : ByteArray) (w0 : s.size ≤ 140737488351232) (w : World) :
    Calls Try.prog 3 #[.string s] w fun e w' => e = .returned (.bool true) ∧ Below w.heap.size w w' := by
  have HP1 : Hid (∀ w, Calls Try.prog 5 #[.string s] w (PResP w s.data.toList)) := Lib.hid fun w => (Parse_any s w w0).mono fun _ _ h => parseR h
  have HP2 : Hid (∀ w, Calls Try.prog 6 #[.string s] w (PResP w s.data.toList)) := Lib.hid fun w => (rParse_any s w w0).mono fun _ _ h => parseR h
  have HP3 : Hid (∀ w, Calls Try.prog 7 #[.string s] w (WResP w s.data.toList)) := Lib.hid fun w => (Whole_any s w w0).mono fun _ _ h => wholeR h
  have HP4 : Hid (∀ w, Calls Try.prog 8 #[.string s] w (WResP w s.data.toList)) := Lib.hid fun w => (rWhole_any s w w0).mono fun _ _ h => wholeR h
  have HS : Hid (∀ (n : Mt.Nd) (v1 v2 : Value) (w : World) (ok1 ok2 : Nat → Prop), IsNd w ok1 64 v1 n → IsNd w ok2 64 v2 n → Calls Try.prog 10 #[v1, v2] w fun e w' => e = .returned (.bool true) ∧ Below w.heap.size w w') := Lib.hid fun n v1 v2 w ok1 ok2 h1 h2 => same_any 64 64 n v1 v2 w ok1 ok2 h1 h2
  clear w0
  unfold PResP at HP1 HP2
  unfold WResP at HP3 HP4
  generalize presR s.data.toList = xr at *
  generalize presE s.data.toList = xe at *
  generalize presN s.data.toList = xn at *
  generalize wresE s.data.toList = ye at *
  generalize wresN s.data.toList = yn at *
  go_enter Try.func3, Try.ntmps3
  go_wp2_with fail
  refine (HP1.out _).mono ?_
  rintro x w1 ⟨t1, D1, a1, m1, c1, rfl, H1⟩
  have HB1 := Lib.hid (H1.out.2)
  have HN1 := Lib.hid (H1.out.1)
  clear H1
  obtain ⟨O1, hO1⟩ : ∃ O, Obj.cells #[.int .i64 t1, .string D1, .slice a1 m1 c1] 24 (0, 0) = O := ⟨_, rfl⟩
  have HA1 := Lib.hid ((Below.refl w1.heap.size w1).alloc (Nat.le_refl _) O1)
  have HC1 := Lib.hid (heap_alloc_new w1 O1)
  have HZ1 : Hid ((w1.alloc O1).heap.size = w1.heap.size + 1) := Lib.hid (by simp)
  rw [← hO1] at HA1 HC1 HZ1
  clear hO1
  go_wp2_with fail
  refine (HP2.out _).mono ?_
  generalize w1.alloc (.cells #[.int .i64 t1, .string D1, .slice a1 m1 c1] 24) = u1 at *
  rintro x w2 ⟨t2, D2, a2, m2, c2, rfl, H2⟩
  have HB2 := Lib.hid (H2.out.2)
  have HN2 := Lib.hid (H2.out.1)
  clear H2
  obtain ⟨O2, hO2⟩ : ∃ O, Obj.cells #[.int .i64 t2, .string D2, .slice a2 m2 c2] 24 (0, 0) = O := ⟨_, rfl⟩
  have HA2 := Lib.hid ((Below.refl w2.heap.size w2).alloc (Nat.le_refl _) O2)
  have HC2 := Lib.hid (heap_alloc_new w2 O2)
  have HZ2 : Hid ((w2.alloc O2).heap.size = w2.heap.size + 1) := Lib.hid (by simp)
  rw [← hO2] at HA2 HC2 HZ2
  clear hO2
  go_wp2_with fail
  refine (HP3.out _).mono ?_
  generalize w2.alloc (.cells #[.int .i64 t2, .string D2, .slice a2 m2 c2] 24) = u2 at *
  rintro x w3 ⟨t3, D3, a3, m3, c3, rfl, H3⟩
  have HB3 := Lib.hid (H3.out.2)
  have HN3 := Lib.hid (H3.out.1)
  clear H3
  obtain ⟨O3, hO3⟩ : ∃ O, Obj.cells #[.int .i64 t3, .string D3, .slice a3 m3 c3] 24 (0, 0) = O := ⟨_, rfl⟩
  have HA3 := Lib.hid ((Below.refl w3.heap.size w3).alloc (Nat.le_refl _) O3)
  have HC3 := Lib.hid (heap_alloc_new w3 O3)
  have HZ3 : Hid ((w3.alloc O3).heap.size = w3.heap.size + 1) := Lib.hid (by simp)
  rw [← hO3] at HA3 HC3 HZ3
  clear hO3
  go_wp2_with fail
  refine (HP4.out _).mono ?_
  generalize w3.alloc (.cells #[.int .i64 t3, .string D3, .slice a3 m3 c3] 24) = u3 at *
  rintro x w4 ⟨t4, D4, a4, m4, c4, rfl, H4⟩
  have HB4 := Lib.hid (H4.out.2)
  have HN4 := Lib.hid (H4.out.1)
  clear H4
  obtain ⟨O4, hO4⟩ : ∃ O, Obj.cells #[.int .i64 t4, .string D4, .slice a4 m4 c4] 24 (0, 0) = O := ⟨_, rfl⟩
  have HA4 := Lib.hid ((Below.refl w4.heap.size w4).alloc (Nat.le_refl _) O4)
  have HC4 := Lib.hid (heap_alloc_new w4 O4)
  have HZ4 : Hid ((w4.alloc O4).heap.size = w4.heap.size + 1) := Lib.hid (by simp)
  rw [← hO4] at HA4 HC4 HZ4
  clear hO4
  go_wp2_with fail
  refine (awake7_any _).mono ?_
  generalize w4.alloc (.cells #[.int .i64 t4, .string D4, .slice a4 m4 c4] 24) = u4 at *
  rintro x w5 ⟨rfl, hb5⟩
  -- what stands in w5
  have hs : w.heap.size ≤ w1.heap.size ∧ w1.heap.size + 1 = u1.heap.size ∧ u1.heap.size ≤ w2.heap.size ∧ w2.heap.size + 1 = u2.heap.size ∧ u2.heap.size ≤ w3.heap.size ∧ w3.heap.size + 1 = u3.heap.size ∧ u3.heap.size ≤ w4.heap.size ∧ w4.heap.size + 1 = u4.heap.size ∧ u4.heap.size ≤ w5.heap.size :=
    ⟨HB1.out.size, HZ1.out.symm, HB2.out.size, HZ2.out.symm, HB3.out.size, HZ3.out.symm, HB4.out.size, HZ4.out.symm, hb5.size⟩
  obtain ⟨s1, s2, s3, s4, s5, s6, s7, s8, s9⟩ := hs
  have h45 : Below w4.heap.size w4 w5 := HA4.out.trans (hb5.mono (by omega))
  have h35 : Below w3.heap.size w3 w5 := HA3.out.trans ((HB4.out.mono (by omega)).trans (h45.mono (by omega)))
  have h25 : Below w2.heap.size w2 w5 := HA2.out.trans ((HB3.out.mono (by omega)).trans (h35.mono (by omega)))
  have h15 : Below w1.heap.size w1 w5 := HA1.out.trans ((HB2.out.mono (by omega)).trans (h25.mono (by omega)))
  have HB5 : Hid (Below w.heap.size w w5) := Lib.hid (HB1.out.trans (h15.mono (by omega)))
  have HM1 := Lib.hid (HN1.out.below h15)
  have HM2 := Lib.hid (HN2.out.below h25)
  have HM3 := Lib.hid (HN3.out.below h35)
  have HM4 := Lib.hid (HN4.out.below h45)
  have r1 : w5.heap[w1.heap.size]? = _ := (((HB2.out.mono (Nat.le_refl _)).trans ((h25).mono (by omega))).block w1.heap.size (by omega)).trans HC1.out
  have r2 : w5.heap[w2.heap.size]? = _ := (((HB3.out.mono (Nat.le_refl _)).trans ((h35).mono (by omega))).block w2.heap.size (by omega)).trans HC2.out
  have r3 : w5.heap[w3.heap.size]? = _ := (((HB4.out.mono (Nat.le_refl _)).trans ((h45).mono (by omega))).block w3.heap.size (by omega)).trans HC3.out
  have r4 : w5.heap[w4.heap.size]? = _ := (hb5.block w4.heap.size (by omega)).trans HC4.out
  have HR3 := Lib.hid r3
  have HR4 := Lib.hid r4
  obtain ⟨b0, b1, b2, _, _, _⟩ := box_of r1
  obtain ⟨d0, d1, d2, _, _, _⟩ := box_of r2
  have HS1 := Lib.hid (HS.out _ _ _ _ _ _ HM1.out HM2.out)
  have HL3 := Lib.hid (show w3.heap.size < w5.heap.size by omega)
  have HL4 := Lib.hid (show w4.heap.size < w5.heap.size by omega)
  clear h45 h35 h25 h15 hb5 r1 r2 r3 r4 s1 s2 s3 s4 s5 s6 s7 s8 s9 HN1 HN2 HN3 HN4 HA1 HA2 HA3 HA4 HB1 HB2 HB3 HB4 HC1 HC2 HC3 HC4 HZ1 HZ2 HZ3 HZ4
  go_wp2_with fail
  refine (HS1.out).mono ?_
  rintro x w6 ⟨rfl, hb6⟩
  obtain ⟨e0, e1, e2, _, _, _⟩ := box_of ((hb6.block w3.heap.size HL3.out).trans HR3.out)
  obtain ⟨g0, g1, g2, _, _, _⟩ := box_of ((hb6.block w4.heap.size HL4.out).trans HR4.out)
  have HS2 := Lib.hid (HS.out _ _ _ _ _ _ (HM3.out.below hb6) (HM4.out.below hb6))
  have HB6 := Lib.hid (HB5.out.trans (hb6.mono HB5.out.size))
  clear hb6 b0 b1 b2 d0 d1 d2
  go_wp2_with fail
  refine (HS2.out).mono ?_
  rintro x w7 ⟨rfl, hb7⟩
  have HB7 := Lib.hid (HB6.out.trans (hb7.mono HB6.out.size))
  clear hb7 e0 e1 e2 g0 g1 g2
  go_wp2_with fail
  go_ret
  exact ⟨rfl, HB7.out⟩

/-! The step from the walk to the row. -/
theorem own : ownKnob Try.prog.godebug = none := by kernel_rfl
theorem laidOut : laidOutB Try.prog = true := by kernel_rfl

set_option maxRecDepth 100000 in
theorem lifted (os : Os) (started : os.Started) (H : Type) (enc : TypeId × Value → H) :
    ReturnsInHanded {} Try.checked os 3 .any (Rows.tlvParsesSpec.pre6 enc Try.prog Try.f3 Rows.tlvParsesRow.domain false) (Rows.tlvParsesSpec.post enc Try.prog Try.f3 false true false false) := by
  refine returnsInHanded_of_change_sized (C := Try.checked) own started (by kernel_rfl) Try.func3
    (ChangeSpec.witness6 (enc := enc) (C := Try.checked) false ⟨#[], #[.string .empty], []⟩ 8 (by kernel_rfl) (by kernel_rfl) (by kernel_rfl) (by kernel_rfl)) ?_
  intro W base args ds gs before hval0 hW _ hsz0 _
  have hsz : (DataW.weightsEach Try.prog (Try.f3.params.toList ++ Rows.tlvParsesSpec.plain.varTypes Try.prog) (ds ++ gs)).all (· ≤ reachBytes) = true := hsz0
  have hval : ∀ (j : Nat) t v, Try.f3.params[j]? = some t → args[j]? = some v → Value.okWide Try.prog W .any base t v := hval0
  have hW' := hW
  obtain ⟨p, q, hA0, hV, rfl, _, _⟩ := hW
  have hA : DataW.TrodAll enc Try.prog W 0 (fun _ => true) true Try.f3.params.toList args.toList ds p := hA0
  rw [Try.params3] at hA hval hsz
  obtain ⟨v0, vs0, d0, ds0, p0, q0, hargs, rfl, rfl, h0, r0⟩ := trodAll_cons hA
  obtain ⟨rfl, rfl, rfl⟩ := trodAll_nil r0
  obtain rfl : args = #[v0] := by cases args; simp_all
  obtain ⟨rfl, rfl⟩ := trodVars_none hV
  obtain ⟨a0, rfl, rfl, rfl, m0⟩ := open_string Try.underlying9 (hval 0 9 v0 rfl rfl) h0
  have w0 : a0.size ≤ 140737488351232 := by
    have h : a0.data.toList.length ≤ reachBytes := sized_string hsz (j := 0) (t := 9) rfl rfl
    simpa [reachBytes] using h
  clear hA0 hval0
  simp only [List.append_nil] at hW'
  refine (walk a0 w0 W ).mono fun e W' ⟨he, bel⟩ => ?_
  subst he
  exact ⟨_, rfl, _, _, _, [], _, [], hW', trodAll_mk1 (shut_bool Try.underlying4 _), (trodAll_cons_mk (shut_string Try.underlying9 m0) trodAll_mk0), rfl, bel.frame _, fun h => by cases h⟩

theorem proved : Rows.TlvParsesSaid :=
  OpenClaim.holds_of_wide 3 Try.f3 rfl rfl rfl rfl rfl rfl rfl ⟨rfl, rfl, rfl, rfl, rfl⟩ rfl rfl rfl rfl rfl (by kernel_rfl) Try.func3 (by kernel_rfl)
    (of_decide_eq_true (by kernel_rfl)) (by unfold Func.isWrapper; first | (rw [if_pos (by decide +kernel)]; kernel_rfl) | (rw [if_neg (by decide +kernel)]; exact ⟨rfl, rfl⟩))
    (fun os started H enc _ => lifted os started H enc)

#print axioms proved
end Go.Proofs.Ytdnalpibcfifmaa.tlvParses
