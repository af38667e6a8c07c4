/-
  SyntaxNumbers is proved: every number's digits are one, and stand in order. No condition beyond the statement's own; the seven listed package variables start as the program's text lays them.
-/
import Derived.Test.YtfogcgegllhmmaaGreatDoorCards
import Derived.Test.YtfogcgegllhmmaaGreatDoorTie
import Derived.Test.YtfogcgegllhmmaaGreatDoorSyDoor
import Derived.Test.YtfogcgegllhmmaaGreatDoorSyG
import Derived.Lib.ItoaLen
import Derived.SevenTiedAt
import Derived.ProofKit
import Derived.OpenShut
import Derived.ShutString
import Derived.SizedLaws
import Derived.SliceStrings
namespace Go.Proofs.YtfogcgegllhmmaaGreatDoor.syntaxNumbers
open Go.ChangeShapes Go.WideShapes Go.ChangeAt Go.RowKit
open Go.ChangeMaps (open_string shut_string)
set_option linter.unusedVariables false

theorem inI_of {m : Int} (h : (Lit.int .i64 m).wf = true) : Mt.inI m := by
  have hb := bounds_i64 h
  unfold Mt.inI
  omega
theorem len_itoa {m : Int} (h : Mt.inI m) : (Lib.itoa m).length ≤ 21 := Lib.itoa_length_le m h.1 h.2
theorem norm_itoa {m : Int} (h : Mt.inI m) : Mt.normS 4 (Lib.itoa m) = some (Lib.itoa m) := by
  have hl := len_itoa h
  have hv : Mt.validS 4 (Lib.itoa m) = true := by
    unfold Mt.validS
    rw [if_neg (by decide), if_neg (by decide), if_pos rfl, Mt.numV_itoa h]
    rfl
  unfold Mt.normS
  rw [if_neg (by omega), if_neg (by decide), hv, if_neg (by decide), if_neg (by decide)]
theorem norm_no {l : List UInt8} (h : Mt.numV l = none) : Mt.normS 4 l = none := by
  have hv : Mt.validS 4 l = false := by
    unfold Mt.validS
    rw [if_neg (by decide), if_neg (by decide), if_pos rfl, h]
    rfl
  unfold Mt.normS
  by_cases hb : 4096 < l.length
  · rw [if_pos hb]
  · rw [if_neg hb, if_neg (by decide), if_pos hv]
theorem order_itoa {m n : Int} (hm : Mt.inI m) (hn : Mt.inI n) : Mt.orderS 4 (Lib.itoa m) (Lib.itoa n) = (if m < n then -1 else if n < m then 1 else 0, true) := by
  unfold Mt.orderS
  rw [norm_itoa hm, norm_itoa hn]
  dsimp only
  rw [if_neg (by decide), if_pos rfl, Mt.numV_itoa hm, Mt.numV_itoa hn]
  rfl
theorem ne_nil (m : Int) : Lib.itoa m ≠ [] := by
  unfold Lib.itoa
  split
  · simp
  · exact Mt.dec_ne _
theorem zero_no (m : Int) : Mt.numV (48 :: Lib.itoa m) = none := by
  cases h : Mt.numV (48 :: Lib.itoa m) with
  | none => rfl
  | some k =>
    obtain ⟨_, he⟩ := (Mt.numV_iff _ _).1 h
    exfalso
    unfold Lib.itoa at he
    split at he
    · simp at he
    · by_cases hk : 0 < k.toNat
      · exact Mt.dec_head _ hk (by rw [he]; rfl)
      · rw [show k.toNat = 0 by omega, Mt.dec_zero] at he
        injection he with _ he
        exact ne_nil m he.symm
theorem plus_no (m : Int) : Mt.numV (43 :: Lib.itoa m) = none := by
  cases h : Mt.numV (43 :: Lib.itoa m) with
  | none => rfl
  | some k =>
    obtain ⟨_, he⟩ := (Mt.numV_iff _ _).1 h
    exfalso
    unfold Lib.itoa at he
    split at he
    · simp at he
    · have := Mt.dec_isD k.toNat 43 (by rw [he]; exact List.mem_cons_self ..)
      unfold Mt.isD at this
      have e : (43 : UInt8).toNat = 43 := rfl
      omega
theorem data_str (l : List UInt8) : (Mt.str l).data.toList = l := rfl
theorem data_cons (c : UInt8) (l : List UInt8) : ((⟨#[c]⟩ : ByteArray) ++ Mt.str l).data.toList = c :: l := by
  rw [ByteArray.data_append]
  simp [Mt.str]

set_option maxRecDepth 100000 in
theorem walk (m n : Int) (w0 : (Lit.int .i64 m).wf = true) (w1 : (Lit.int .i64 n).wf = true) (w : World) (hg : LaidY w) :
    Calls Tryz.prog 7 #[.int .i64 m, .int .i64 n] w fun e w' => e = .returned (.bool true) ∧ Below w.heap.size w w' := by
  have hm := inI_of w0
  have hn := inI_of w1
  have HL := Lib.hid (fun u (hu : Below w.heap.size w u) => hg.below hu)
  have zm : (Mt.str (Lib.itoa m)).size ≤ 21 := len_itoa hm
  have zn : (Mt.str (Lib.itoa n)).size ≤ 21 := len_itoa hn
  have z8 : ((⟨#[48]⟩ : ByteArray) ++ Mt.str (Lib.itoa m)).size = 1 + (Mt.str (Lib.itoa m)).size := by rw [ByteArray.size_append]; rfl
  have z3 : ((⟨#[43]⟩ : ByteArray) ++ Mt.str (Lib.itoa m)).size = 1 + (Mt.str (Lib.itoa m)).size := by rw [ByteArray.size_append]; rfl
  have H1 := Lib.hid (fun u (hu : Below w.heap.size w u) => norm12_any 4 (Mt.str (Lib.itoa m)) (by omega) u (HL.out u hu))
  have H2 := Lib.hid (fun u (hu : Below w.heap.size w u) => order12_any 4 (Mt.str (Lib.itoa m)) (Mt.str (Lib.itoa n)) (by omega) (by omega) u (HL.out u hu))
  have H3 := Lib.hid (fun u (hu : Below w.heap.size w u) => norm12_any 4 ((⟨#[48]⟩ : ByteArray) ++ Mt.str (Lib.itoa m)) (by omega) u (HL.out u hu))
  have H4 := Lib.hid (fun u (hu : Below w.heap.size w u) => norm12_any 4 ((⟨#[43]⟩ : ByteArray) ++ Mt.str (Lib.itoa m)) (by omega) u (HL.out u hu))
  have HF := Lib.hid (fun u (hu : Below w.heap.size w u) => sy_format m hm (HL.out u hu))
  have HF2 := Lib.hid (fun u (hu : Below w.heap.size w u) => sy_format n hn (HL.out u hu))
  rw [data_str, norm_itoa hm] at H1
  rw [data_str, data_str, order_itoa hm hn] at H2
  rw [data_cons, norm_no (zero_no m)] at H3
  rw [data_cons, norm_no (plus_no m)] at H4
  have zb : ¬ (9223372036854775807 < 1 + (Mt.str (Lib.itoa m)).size) := by omega
  unfold normV Mt.optT at H1 H3 H4
  unfold orderV at H2
  dsimp only [Option.getD, Option.isSome] at H1 H3 H4
  have o1 : (decide ((if m < n then (-1 : Int) else if n < m then 1 else 0) < 0) == decide (m < n)) = true := by
    split
    · rename_i h; simp [h]
    · rename_i h; split <;> simp [h]
  have o2 : (((if m < n then (-1 : Int) else if n < m then 1 else 0) == 0) == (m == n)) = true := by
    split
    · rename_i h
      have : ¬ m = n := by omega
      simp [this]
    · split
      · have : ¬ m = n := by omega
        simp [this]
      · have : m = n := by omega
        simp [this]
  generalize (if m < n then (-1 : Int) else if n < m then 1 else 0) = o at *
  generalize Mt.str (Lib.itoa m) = A at *
  generalize Mt.str (Lib.itoa n) = B at *
  clear z8 z3 zm zn hg w0 w1 hm hn
  go_enter Tryz.func7, Tryz.ntmps7
  go_wp2_with fail
  refine (HF.out _ (Below.refl _ _)).mono ?_
  rintro e w1 ⟨rfl, hb⟩
  have HB := Lib.hid hb
  clear hb
  go_wp2_with fail
  refine (HF2.out _ HB.out).mono ?_
  rintro e w2 ⟨rfl, hb⟩
  replace HB := Lib.hid (HB.out.trans (hb.mono HB.out.size))
  clear hb
  go_wp2_with fail
  refine (H1.out _ HB.out).mono ?_
  rintro e w3 ⟨rfl, hb⟩
  replace HB := Lib.hid (HB.out.trans (hb.mono HB.out.size))
  clear hb
  go_wp2_with fail
  refine (H2.out _ HB.out).mono ?_
  rintro e w4 ⟨rfl, hb⟩
  replace HB := Lib.hid (HB.out.trans (hb.mono HB.out.size))
  clear hb
  go_wp2_with fail
  refine (H3.out _ HB.out).mono ?_
  rintro e w5 ⟨rfl, hb⟩
  replace HB := Lib.hid (HB.out.trans (hb.mono HB.out.size))
  clear hb
  go_wp2_with fail
  refine (H4.out _ HB.out).mono ?_
  rintro e w6 ⟨rfl, hb⟩
  replace HB := Lib.hid (HB.out.trans (hb.mono HB.out.size))
  clear hb
  go_wp2_with fail
  refine (awake12_any _ (HL.out _ HB.out)).mono ?_
  rintro e w7 ⟨rfl, hb⟩
  replace HB := Lib.hid (HB.out.trans (hb.mono HB.out.size))
  clear hb
  go_wp2_with fail
  go_ret
  exact ⟨rfl, HB.out⟩

/-! The step from the walk to the row. -/
theorem own : ownKnob Tryz.prog.godebug = none := by kernel_rfl
theorem laidOut : laidOutB Tryz.prog = true := by kernel_rfl

set_option maxRecDepth 100000 in
theorem lifted (os : Os) (started : os.Started) (H : Type) (enc : TypeId × Value → H) :
    ReturnsInHanded {} Tryz.checked os 7 .any (fun w args => (Rows.syntaxNumbersSpec.pre enc Tryz.prog Tryz.f7 [] false w args ∧ laidMetH Tryz.prog laid7 w) ∧ sizedMet enc Tryz.prog Tryz.f7 (OpenSpec.ofChange Rows.syntaxNumbersSpec) false w args)
      (Rows.syntaxNumbersSpec.post enc Tryz.prog Tryz.f7 false true false false) := by
  refine rowY (s := Rows.syntaxNumbersSpec) own started (by kernel_rfl) Tryz.func7
    (ChangeSpec.witness_shaped (enc := enc) (C := Tryz.checked) (os := os) (X := fun w _ => laidMetH Tryz.prog laid7 w) false (World.laidAll Tryz.prog os laid7) #[.int .i64 0, .int .i64 0] 8 (World.laidAll_os _ _ _) (World.shaped_of_ZipB (by kernel_rfl) (by kernel_rfl)) (by kernel_rfl) (by kernel_rfl) (by kernel_rfl) (laidY_met os _)) ?_
  intro W base args ds gs before hval0 hW hsz0 hG
  have hsz : (DataW.weightsEach Tryz.prog (Tryz.f7.params.toList ++ Rows.syntaxNumbersSpec.plain.varTypes Tryz.prog) (ds ++ gs)).all (· ≤ reachBytes) = true := hsz0
  have hval : ∀ (j : Nat) t v, Tryz.f7.params[j]? = some t → args[j]? = some v → Value.okWide Tryz.prog W .any base t v := hval0
  have hW' := hW
  obtain ⟨p, q, hA0, hV, rfl, _, _⟩ := hW
  have hA : DataW.TrodAll enc Tryz.prog W 0 (fun _ => true) true Tryz.f7.params.toList args.toList ds p := hA0
  rw [Tryz.params7] at hA hval hsz
  obtain ⟨v0, vs0, d0, ds0, p0, q0, hargs, rfl, rfl, h0, r0⟩ := trodAll_cons hA
  obtain ⟨v1, vs1, d1, ds1, p1, q1, rfl, rfl, rfl, h1, r1⟩ := trodAll_cons r0
  obtain ⟨rfl, rfl, rfl⟩ := trodAll_nil r1
  obtain rfl : args = #[v0, v1] := by cases args; simp_all
  obtain ⟨rfl, rfl⟩ := trodVars_none hV
  obtain ⟨a0, rfl, rfl, rfl, w0⟩ := open_int Tryz.underlying2 (hval 0 2 v0 rfl rfl) h0
  obtain ⟨a1, rfl, rfl, rfl, w1⟩ := open_int Tryz.underlying2 (hval 1 2 v1 rfl rfl) h1
  clear hA0 hval0
  simp only [List.append_nil] at hW'
  refine (walk a0 a1 w0 w1 W hG).mono fun e W' ⟨he, bel⟩ => ?_
  subst he
  exact ⟨_, rfl, _, _, _, [], _, [], hW', trodAll_mk1 (shut_bool Tryz.underlying4 _), (trodAll_cons_mk (shut_int Tryz.underlying2 w0) (trodAll_cons_mk (shut_int Tryz.underlying2 w1) trodAll_mk0)), rfl, bel.frame _, fun h => by cases h⟩

theorem proved : Rows.SyntaxNumbersSaid :=
  OpenClaim.holds_of_wide 7 Tryz.f7 rfl rfl rfl rfl rfl rfl rfl ⟨rfl, rfl, rfl, rfl, rfl⟩ rfl rfl rfl rfl rfl (by kernel_rfl) Tryz.func7 (by kernel_rfl)
    (of_decide_eq_true (by kernel_rfl)) (by unfold Func.isWrapper; first | (rw [if_pos (by decide +kernel)]; kernel_rfl) | (rw [if_neg (by decide +kernel)]; exact ⟨rfl, rfl⟩))
    (fun os started H enc _ => lifted os started H enc)

/-- THE CARD: the row, its two listed variables tied to the program's text (the ties are given). -/
theorem card : Rows.SyntaxNumbersCardSaid :=
  Claim7.holds_tied_plain_at .later [] [.data, .data, .data, .data, .sentinel, .sentinel, .pinned] true Rows.syntaxNumbersCard.stood.harness Rows.syntaxNumbersCard.stood.looks
    proved (fun _ h => by cases h) (by kernel_rfl) (fun _ h => by cases h) syntaxNumbers_row_tie rfl ⟨rfl, rfl⟩ (by kernel_rfl) rfl
    (fun f fn hf hfn => by
      obtain rfl : f = 7 := Option.some.inj ((show Tryz.prog.funcNamed "castellan/castellanlaw12.SyntaxNumbers" = some 7 by kernel_rfl).symm.trans hf) |>.symm
      obtain rfl : fn = Tryz.f7 := (Option.some.inj (Tryz.func7.symm.trans hfn)).symm
      exact ⟨by kernel_rfl, fun j t ht => by
        rw [Tryz.params7] at ht
        have hm : t ∈ [2, 2] := by simpa using Array.mem_of_getElem? ht
        have hall : ([2, 2].all fun u => !Tryz.prog.wantsStandIn u) = true := by kernel_rfl
        exact (show Tryz.prog.wantsStandIn t = false by simpa using List.all_eq_true.1 hall t hm)⟩)
    (by kernel_rfl)

#print axioms proved
end Go.Proofs.YtfogcgegllhmmaaGreatDoor.syntaxNumbers
