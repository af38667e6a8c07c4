/-
  DnBack is proved: a name's text is read as the name; a key is its own key. No condition.
-/
import Derived.Test.YtcngfnmpghgocaaRows
import Derived.Test.YtcngfnmpghgocaaDnO
import Derived.Test.YtcngfnmpghgocaaDnP
import Derived.Test.YtcngfnmpghgocaaDnQ
import Derived.Test.YtcngfnmpghgocaaDnBl
import Derived.ProofKit
import Derived.OpenShut
import Derived.ShutString
import Derived.SizedLaws
namespace Go.Proofs.Ytcngfnmpghgocaa.dnBack
open Go.ChangeShapes Go.WideShapes Go.ChangeAt Go.RowKit
open Go.ChangeMaps (open_string shut_string)
set_option linter.unusedVariables false

set_option maxRecDepth 100000 in
set_option maxHeartbeats 1000000 in
theorem walk (d : List (List Mt.Av)) (a : Option Addr) (n c : Nat) (w : World) (hd : IsDn w (.slice a n c) d) :
    Calls Try.prog 9 #[.slice a n c] w fun e w' => e = .returned (.bool true) ∧ Below w.heap.size w w' := by
  have HP := Lib.hid (print_any hd)
  have HA := Lib.hid (fun u => awake9_any u)
  have HDN := Lib.hid (fun (u : World) (hu : Below w.heap.size w u) => hd.below hu)
  cases hp : Mt.printD d with
  | error e =>
    rw [hp] at HP
    have hei : ((e : Int) != 0) = true := by have := Mt.print_err hp; simp; omega
    unfold textV at HP
    clear hp hd
    go_enter Try.func9, Try.ntmps9
    go_wp2_with fail
    refine (HP.out).mono ?_
    rintro x w2 ⟨rfl, hb⟩
    have HB := Lib.hid hb
    clear hb
    go_wp2_with fail
    refine (HA.out _).mono ?_
    rintro x w3 ⟨rfl, hb⟩
    have HB3 := Lib.hid (HB.out.trans (hb.mono HB.out.size))
    clear hb
    go_wp2_with fail
    refine (HA.out _).mono ?_
    rintro x w4 ⟨rfl, hb⟩
    have HB4 := Lib.hid (HB3.out.trans (hb.mono HB3.out.size))
    clear hb
    go_wp2_with fail
    go_ret
    exact ⟨rfl, HB4.out⟩
  | ok t =>
    rw [hp] at HP
    obtain ⟨k, hk⟩ : ∃ k, Mt.keyD d = .ok k := ⟨_, by unfold Mt.keyD; rw [hp]⟩
    have htl := (Mt.print_good hp).2.2
    have hkl : k.length ≤ 4096 := (Mt.print_good (Mt.key_reads hk).2).2.2
    have HPA := Lib.hid (fun u => dparse_any (Mt.str t) u (by rw [Mt.str_size]; omega))
    unfold ParsP at HPA
    rw [Mt.str_data, Mt.parse_print hp] at HPA
    have HN := Lib.hid (fun (u : World) (hu : Below w.heap.size w u) => norm_any (HDN.out u hu))
    rw [hk] at HN
    have HK := Lib.hid (fun u => key_any (Mt.str k) u (by rw [Mt.str_size]; omega))
    rw [Mt.str_data, Mt.key_key hk] at HK
    unfold textV at HP HN HK
    clear hp hd hk htl hkl
    go_enter Try.func9, Try.ntmps9
    go_wp2_with fail
    refine (HP.out).mono ?_
    rintro x w2 ⟨rfl, hb⟩
    have HB := Lib.hid hb
    clear hb
    go_wp2_with fail
    refine (HA.out _).mono ?_
    rintro x w3 ⟨rfl, hb⟩
    have HB3 := Lib.hid (HB.out.trans (hb.mono HB.out.size))
    clear hb
    go_wp2_with fail
    refine (HPA.out _).mono ?_
    rintro x w4 ⟨hb, v, rfl, hx⟩
    have HX := Lib.hid hx
    have HB4 := Lib.hid (HB3.out.trans (hb.mono HB3.out.size))
    obtain ⟨va, vc, rfl, _⟩ := hx
    clear hb
    go_wp2_with fail
    refine (HN.out _ HB4.out).mono ?_
    rintro x w5 ⟨rfl, hb⟩
    have HX5 := Lib.hid (HX.out.below hb)
    have HB5 := Lib.hid (HB4.out.trans (hb.mono HB4.out.size))
    clear hb
    go_wp2_with fail
    refine (HK.out _).mono ?_
    rintro x w6 ⟨rfl, hb⟩
    have HX6 := Lib.hid (HX5.out.below hb)
    have HB6 := Lib.hid (HB5.out.trans (hb.mono HB5.out.size))
    clear hb
    have HS := Lib.hid (same9_any HX6.out (HDN.out _ HB6.out))
    have hdd : decide (d = d) = true := decide_eq_true rfl
    rw [hdd] at HS
    clear hdd
    go_wp2_with fail
    refine (HS.out).mono ?_
    rintro x w7 ⟨rfl, hb⟩
    have HB7 := Lib.hid (HB6.out.trans (hb.mono HB6.out.size))
    clear hb
    go_wp2_with fail
    go_ret
    exact ⟨by simp, HB7.out⟩

/-! The step from the walk to the row. -/
theorem own : ownKnob Try.prog.godebug = none := by kernel_rfl
theorem laidOut : laidOutB Try.prog = true := by kernel_rfl

set_option maxRecDepth 100000 in
theorem lifted (os : Os) (started : os.Started) (H : Type) (enc : TypeId × Value → H) :
    ReturnsInHanded {} Try.checked os 9 .any (Rows.dnBackSpec.pre6 enc Try.prog Try.f9 Rows.dnBackRow.domain false) (Rows.dnBackSpec.post enc Try.prog Try.f9 false true false false) := by
  refine returnsInHanded_of_change_sized (C := Try.checked) own started (by kernel_rfl) Try.func9
    (ChangeSpec.witness6 (enc := enc) (C := Try.checked) false ⟨#[], #[.slice none 0 0], []⟩ 8 (by kernel_rfl) (by kernel_rfl) (by kernel_rfl) (by kernel_rfl)) ?_
  intro W base args ds gs before hval0 hW _ hsz0 _
  have hsz : (DataW.weightsEach Try.prog (Try.f9.params.toList ++ Rows.dnBackSpec.plain.varTypes Try.prog) (ds ++ gs)).all (· ≤ reachBytes) = true := hsz0
  have hval : ∀ (j : Nat) t v, Try.f9.params[j]? = some t → args[j]? = some v → Value.okWide Try.prog W .any base t v := hval0
  have hW' := hW
  obtain ⟨p, q, hA0, hV, rfl, _, _⟩ := hW
  have hA : DataW.TrodAll enc Try.prog W 0 (fun _ => true) true Try.f9.params.toList args.toList ds p := hA0
  rw [Try.params9] at hA hval hsz
  obtain ⟨v0, vs0, d0, ds0, p0, q0, hargs, rfl, rfl, h0, r0⟩ := trodAll_cons hA
  obtain ⟨rfl, rfl, rfl⟩ := trodAll_nil r0
  obtain rfl : args = #[v0] := by cases args; simp_all
  obtain ⟨rfl, rfl⟩ := trodVars_none hV
  obtain ⟨a0, n0, c0, rfl⟩ := okWide_slice Try.underlying43 (hval 0 43 v0 rfl rfl)
  have k0 := h0
  have lt0 : ∀ x ∈ p0, x.block < W.heap.size := by obtain ⟨m, hm⟩ := k0; exact DataW.trod_lt m _ _ _ hm
  obtain ⟨D0, w0⟩ := open_dn h0
  clear hA0 hval0
  simp only [List.append_nil] at hW'
  refine (walk D0 a0 n0 c0  W w0).mono fun e W' ⟨he, bel⟩ => ?_
  subst he
  exact ⟨_, rfl, _, _, _, [], _, [], hW', trodAll_mk1 (shut_bool Try.underlying4 _), (trodAll_cons_mk (Below.trod laidOut (by kernel_rfl) (of_decide_eq_true (by kernel_rfl)) k0 bel lt0) trodAll_mk0), rfl, bel.frame _, fun h => by cases h⟩

theorem proved : Rows.DnBackSaid :=
  OpenClaim.holds_of_wide 9 Try.f9 rfl rfl rfl rfl rfl rfl rfl ⟨rfl, rfl, rfl, rfl, rfl⟩ rfl rfl rfl rfl rfl (by kernel_rfl) Try.func9 (by kernel_rfl)
    (of_decide_eq_true (by kernel_rfl)) (by unfold Func.isWrapper; first | (rw [if_pos (by decide +kernel)]; kernel_rfl) | (rw [if_neg (by decide +kernel)]; exact ⟨rfl, rfl⟩))
    (fun os started H enc _ => lifted os started H enc)

#print axioms proved
end Go.Proofs.Ytcngfnmpghgocaa.dnBack
