/-
  OctetBack is proved: what octet.Put puts octet.Get gets, wherever it stands; octet.Unhex reads octet.Hex's digits back. No condition.
-/
import Derived.Test.YtfcfhfaccpiffaaRows
import Derived.Test.YtfcfhfaccpiffaaAwake
import Derived.Test.YtfcfhfaccpiffaaGet
import Derived.Test.YtfcfhfaccpiffaaUnhex
import Derived.Test.YtfcfhfaccpiffaaBackMath
import Derived.ProofKit
import Derived.OpenShut
import Derived.ShutString
import Derived.SizedLaws
import Derived.ChangeOld
import Derived.Deep.QuietTactic
import Derived.BigQuiet
namespace Go.Proofs.Ytfcfhfaccpiffaa.octetBack
open Go.ChangeShapes Go.WideShapes Go.ChangeAt Go.RowKit
open Go.ChangeMaps (open_string shut_string)
set_option linter.unusedVariables false

theorem belowN {B : Nat} {a w : World} (h : Below B a w) (m : Nat) : Below B a (w.drewN m) := ⟨h.os, h.tape, h.output, h.size, h.block⟩

set_option maxHeartbeats 800000 in
set_option maxRecDepth 100000 in
theorem walk (n size : Int) (a b : ByteArray) (w0 : (Lit.int .u64 n).wf = true) (w1 : (Lit.int .i64 size).wf = true) (wa : a.size ≤ 140737488351232) (wb : b.size ≤ 140737488351232) (w : World) :
    Calls Try.prog 8 #[.int .u64 n, .int .i64 size, .agg #[.string a, .string b]] w fun e w' => e = .returned (.bool true) ∧ Below w.heap.size w w' := by
  have hn := bounds_u64 w0
  obtain ⟨m, rfl⟩ := Int.eq_ofNat_of_zero_le hn.1
  obtain ⟨K, hK1, hK8, hK⟩ : ∃ K : Nat, 1 ≤ K ∧ K ≤ 8 ∧ wrap64 (1 + wrap64 ((IntKind.u64.wrap size).tmod 8)) = (K : Int) := by
    have h0 := wrap_u64_nonneg size
    obtain ⟨u, hu⟩ := Int.eq_ofNat_of_zero_le h0
    rw [hu, Int.tmod_eq_emod_of_nonneg (by omega)]
    refine ⟨1 + u % 8, by omega, by omega, ?_⟩
    simp only [wrap64]; omega
  have g3 := fun u => hex_any a u wa
  obtain ⟨Hs, hH⟩ : ∃ Hs, strOfNums (Mt.hex a.data.toList) = Hs := ⟨_, rfl⟩
  have hHs : Hs.size = 2 * a.size := by rw [← hH, strOfNums_size, Mt.hex_length]; rfl
  have g4 := fun u => unhex_any Hs u (by omega)
  have hu : Mt.unhex Hs.data.toList = (a.data.toList, true) := by rw [← hH]; exact Mt.unhex_hex _
  rw [hu] at g4
  rw [hH] at g3
  have G3 := Lib.hid g3
  have G4 : Hid (∀ u : World, Calls Try.prog 21 #[.string Hs] u fun e w' => e = .returned (.tuple #[.string a, .bool true]) ∧ Below u.heap.size u w') := Lib.hid g4
  clear g3 g4 hu hHs hH w0 w1
  by_cases h8 : K < 8
  · have hq : m % 256 ^ K < 256 ^ K := Nat.mod_lt _ (Nat.pow_pos (by decide))
    have hmask : bits BinOp.and IntKind.u64 (m : Int) (IntKind.u64.wrap (IntKind.u64.wrap (2 ^ (8 * K)) - 1)) = ((m % 256 ^ K : Nat) : Int) := by
      rw [Mt.wrap_mask K h8, Mt.mask _ K (by omega) hn.1 (by omega)]
      exact Mt.mod_pow m K
    clear hn
    generalize m % 256 ^ K = q at hq hmask
    obtain ⟨P, hP⟩ : ∃ P, strOfNums (Mt.be q K) = P := ⟨_, rfl⟩
    have hPs : P.size = K := by rw [← hP, strOfNums_size, Mt.be_length]
    have g1 := fun u => put_yes q K u hK1 hK8
    have gp := Mt.gn_put a b q K hq
    rw [hP] at g1 gp
    have g2 := fun u => get_yes (a ++ P ++ b) a.size K u (by rw [ByteArray.size_append, ByteArray.size_append, hPs]; omega) hK1 hK8 (by rw [ByteArray.size_append, ByteArray.size_append, hPs]; omega)
    rw [gp] at g2
    have G1 := Lib.hid g1
    have G2 := Lib.hid g2
    have hadd := fun wx => run_string_add_sum (w := wx) (P := Try.prog) a P (by rw [hPs]; omega)
    have hadd2 := fun wx => run_string_add_sum (w := wx) (P := Try.prog) (a ++ P) b (by rw [ByteArray.size_append, hPs]; omega)
    clear g1 g2 gp hPs hP
    clear hq
    go_enter Try.func8, Try.ntmps8
    go_wp2_with fail
    go_quiet (fail)
    go_wp2_with fail
    refine (G1.out _).mono ?_
    rintro e w1 ⟨rfl, hb1⟩
    have H1 := Lib.hid ((belowN ((Below.refl _ _).alloc (Nat.le_refl _) _) nq).trans (hb1.mono (by simp)))
    clear hb1
    go_wp2_with fail
    refine (G2.out _).mono ?_
    rintro e w2 ⟨rfl, rfl⟩
    go_wp2_with fail
    refine (G3.out _).mono ?_
    rintro e w2 ⟨rfl, hb2⟩
    have H2 := Lib.hid (H1.out.trans (hb2.mono H1.out.size))
    clear hb2
    go_wp2_with fail
    refine (G4.out _).mono ?_
    rintro e w3 ⟨rfl, hb3⟩
    have H3 := Lib.hid (H2.out.trans (hb3.mono H2.out.size))
    clear hb3
    go_wp2_with fail
    refine (awake1_any _).mono ?_
    rintro e w4 ⟨rfl, hb4⟩
    have H4 := Lib.hid (H3.out.trans (hb4.mono H3.out.size))
    clear hb4
    go_wp2_with fail
    go_ret
    exact ⟨Mt.ret_bool (by simp), H4.out⟩
  · obtain rfl : K = 8 := by omega
    have hq : m < 256 ^ 8 := by omega
    clear hn
    generalize m = q at hq
    obtain ⟨P, hP⟩ : ∃ P, strOfNums (Mt.be q 8) = P := ⟨_, rfl⟩
    have hPs : P.size = 8 := by rw [← hP, strOfNums_size, Mt.be_length]
    have g1 := fun u => put_yes q 8 u (by omega) (by omega)
    have gp := Mt.gn_put a b q 8 hq
    rw [hP] at g1 gp
    have g2 := fun u => get_yes (a ++ P ++ b) a.size 8 u (by rw [ByteArray.size_append, ByteArray.size_append, hPs]; omega) (by omega) (by omega) (by rw [ByteArray.size_append, ByteArray.size_append, hPs]; omega)
    rw [gp] at g2
    have G1 := Lib.hid g1
    have G2 := Lib.hid g2
    have hadd := fun wx => run_string_add_sum (w := wx) (P := Try.prog) a P (by rw [hPs]; omega)
    have hadd2 := fun wx => run_string_add_sum (w := wx) (P := Try.prog) (a ++ P) b (by rw [ByteArray.size_append, hPs]; omega)
    clear g1 g2 gp hPs hP
    clear hq
    go_enter Try.func8, Try.ntmps8
    go_wp2_with fail
    go_quiet (fail)
    go_wp2_with fail
    refine (G1.out _).mono ?_
    rintro e w1 ⟨rfl, hb1⟩
    have H1 := Lib.hid ((belowN ((Below.refl _ _).alloc (Nat.le_refl _) _) nq).trans (hb1.mono (by simp)))
    clear hb1
    go_wp2_with fail
    refine (G2.out _).mono ?_
    rintro e w2 ⟨rfl, rfl⟩
    go_wp2_with fail
    refine (G3.out _).mono ?_
    rintro e w2 ⟨rfl, hb2⟩
    have H2 := Lib.hid (H1.out.trans (hb2.mono H1.out.size))
    clear hb2
    go_wp2_with fail
    refine (G4.out _).mono ?_
    rintro e w3 ⟨rfl, hb3⟩
    have H3 := Lib.hid (H2.out.trans (hb3.mono H2.out.size))
    clear hb3
    go_wp2_with fail
    refine (awake1_any _).mono ?_
    rintro e w4 ⟨rfl, hb4⟩
    have H4 := Lib.hid (H3.out.trans (hb4.mono H3.out.size))
    clear hb4
    go_wp2_with fail
    go_ret
    exact ⟨Mt.ret_bool (by simp), H4.out⟩

/-! The step from the walk to the row. -/
theorem own : ownKnob Try.prog.godebug = none := by kernel_rfl
theorem laidOut : laidOutB Try.prog = true := by kernel_rfl
theorem cells2 : Try.prog.cellsOf 33 = 2 := by kernel_rfl
theorem cells1 : Try.prog.cellsOf 9 = 1 := by kernel_rfl
theorem list2 {α : Type} (l : List α) (h : (⟨l⟩ : Array α).size = 2) : ∃ a b, l = [a, b] := by
  match l, h with
  | [a, b], _ => exact ⟨a, b, rfl⟩
/-- Two texts in an array, read: they are no longer than the reach. -/
theorem open_arr2 {H : Type} {enc : TypeId × Value → H} {W : World} {base : Nat} {spare : Nat → Bool} {held : Bool} {c0 c1 : Value} {d : DataW H} {p : List MemPlace} {ts : List TypeId} {ds : List (DataW H)} {j : Nat}
    (h : DataW.Trod enc Try.prog W base spare held 33 (.agg #[c0, c1]) d p) (ht : ts[j]? = some 33) (hd : ds[j]? = some d)
    (hsz : (DataW.weightsEach Try.prog ts ds).all (· ≤ reachBytes) = true) :
    ∃ a b : ByteArray, c0 = .string a ∧ c1 = .string b ∧ a.size ≤ 140737488351232 ∧ b.size ≤ 140737488351232 := by
  obtain ⟨fuel, hf⟩ := h
  obtain ⟨xs, m, _, hx, _, hl, hi⟩ := DataW.trod_array Try.underlying33 hf
  have h0 := hi 0 (by omega)
  have h1 := hi 1 (by omega)
  obtain ⟨x0, x1, rfl⟩ : ∃ x0 x1, xs = [x0, x1] := list2 xs hl
  simp only [cells1] at h0 h1
  obtain ⟨a, ea, rfl, _⟩ := DataW.trod_string Try.underlying9 (x := x0) (by simpa using h0)
  obtain ⟨b, eb, rfl, _⟩ := DataW.trod_string Try.underlying9 (x := x1) (by simpa using h1)
  simp [Value.cells] at ea eb
  simp only [Prod.mk.injEq, List.map_cons, List.map_nil] at hx
  have hw : ∀ n ∈ d.weights Try.prog 33, n ≤ reachBytes := fun n hn => by
    have := List.all_eq_true.1 hsz _ (DataW.weights_mem_each ht hd n hn)
    simpa using this
  rw [hx.1] at hw
  refine ⟨a, b, ea, eb, ?_, ?_⟩
  · have := hw a.data.toList.length (by simp [DataW.weights, DataW.weightsAll, Try.underlying33])
    simpa [reachBytes] using this
  · have := hw b.data.toList.length (by simp [DataW.weights, DataW.weightsAll, Try.underlying33])
    simpa [reachBytes] using this

set_option maxRecDepth 100000 in
theorem lifted (os : Os) (started : os.Started) (H : Type) (enc : TypeId × Value → H) :
    ReturnsInHanded {} Try.checked os 8 .any (Rows.octetBackSpec.pre6 enc Try.prog Try.f8 Rows.octetBackRow.domain false) (Rows.octetBackSpec.post enc Try.prog Try.f8 false true false false) := by
  refine returnsInHanded_of_change_sized (C := Try.checked) own started (by kernel_rfl) Try.func8
    (ChangeSpec.witness6 (enc := enc) (C := Try.checked) false ⟨#[], #[.int .u64 0, .int .i64 0, .agg #[.string .empty, .string .empty]], []⟩ 8 (by kernel_rfl) (by kernel_rfl) (by kernel_rfl) (by kernel_rfl)) ?_
  intro W base args ds gs before hval0 hW _ hsz0 _
  have hsz : (DataW.weightsEach Try.prog (Try.f8.params.toList ++ Rows.octetBackSpec.plain.varTypes Try.prog) (ds ++ gs)).all (· ≤ reachBytes) = true := hsz0
  have hval : ∀ (j : Nat) t v, Try.f8.params[j]? = some t → args[j]? = some v → Value.okWide Try.prog W .any base t v := hval0
  have hW' := hW
  obtain ⟨p, q, hA0, hV, rfl, _, _⟩ := hW
  have hA : DataW.TrodAll enc Try.prog W 0 (fun _ => true) true Try.f8.params.toList args.toList ds p := hA0
  rw [Try.params8] at hA hval hsz
  obtain ⟨v0, vs0, d0, ds0, p0, q0, hargs, rfl, rfl, h0, r0⟩ := trodAll_cons hA
  obtain ⟨v1, vs1, d1, ds1, p1, q1, rfl, rfl, rfl, h1, r1⟩ := trodAll_cons r0
  obtain ⟨v2, vs2, d2, ds2, p2, q2, rfl, rfl, rfl, h2, r2⟩ := trodAll_cons r1
  obtain ⟨rfl, rfl, rfl⟩ := trodAll_nil r2
  obtain rfl : args = #[v0, v1, v2] := by cases args; simp_all
  obtain ⟨rfl, rfl⟩ := trodVars_none hV
  obtain ⟨a0, rfl, rfl, rfl, w0⟩ := open_int Try.underlying22 (hval 0 22 v0 rfl rfl) h0
  obtain ⟨a1, rfl, rfl, rfl, w1⟩ := open_int Try.underlying3 (hval 1 3 v1 rfl rfl) h1
  have k2 := h2
  have lt2 : ∀ x ∈ p2, x.block < W.heap.size := by obtain ⟨m, hm⟩ := k2; exact DataW.trod_lt m _ _ _ hm
  obtain ⟨cl2, rfl, hcl2, _⟩ : ∃ cs, v2 = .agg cs ∧ cs.size = Try.prog.cellsOf 33 ∧ Row.okWide Try.prog W .any base 33 cs := by
    have := hval 2 33 v2 rfl rfl
    simpa [Value.okWide, Try.underlying33] using this
  rw [cells2] at hcl2
  obtain ⟨l2⟩ := cl2
  obtain ⟨c2, e2, rfl⟩ := list2 l2 hcl2
  obtain ⟨a2x, a2y, hc2, he2, w2x, w2y⟩ := open_arr2 (j := 2) h2 rfl rfl hsz
  subst hc2 he2
  clear hA0 hval0
  simp only [List.append_nil] at hW'
  refine (walk a0 a1 a2x a2y w0 w1 w2x w2y W).mono fun e W' ⟨he, bel⟩ => ?_
  subst he
  exact ⟨_, rfl, _, _, _, [], _, [], hW', trodAll_mk1 (shut_bool Try.underlying4 _), (trodAll_cons_mk (shut_int Try.underlying22 w0) (trodAll_cons_mk (shut_int Try.underlying3 w1) (trodAll_cons_mk (Below.trod laidOut (by kernel_rfl) (of_decide_eq_true (by kernel_rfl)) k2 bel lt2) trodAll_mk0))), rfl, bel.frame _, fun h => by cases h⟩

theorem proved : Rows.OctetBackSaid :=
  OpenClaim.holds_of_wide 8 Try.f8 rfl rfl rfl rfl rfl rfl rfl ⟨rfl, rfl, rfl, rfl, rfl⟩ rfl rfl rfl rfl rfl (by kernel_rfl) Try.func8 (by kernel_rfl)
    (of_decide_eq_true (by kernel_rfl)) (by unfold Func.isWrapper; first | (rw [if_pos (by decide +kernel)]; kernel_rfl) | (rw [if_neg (by decide +kernel)]; exact ⟨rfl, rfl⟩))
    (fun os started H enc _ => lifted os started H enc)

#print axioms proved
end Go.Proofs.Ytfcfhfaccpiffaa.octetBack
