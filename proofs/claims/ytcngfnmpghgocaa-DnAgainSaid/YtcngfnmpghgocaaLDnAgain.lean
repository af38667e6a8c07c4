/-
  DnAgain is proved: what is read, printed and read again is the same; and letters' size in it makes no difference to its key. No condition.
-/
import Derived.Test.YtcngfnmpghgocaaRows
import Derived.Test.YtcngfnmpghgocaaDnO
import Derived.Test.YtcngfnmpghgocaaDnP
import Derived.Test.YtcngfnmpghgocaaDnBm
import Derived.Test.YtcngfnmpghgocaaCv
import Derived.ProofKit
import Derived.OpenShut
import Derived.ShutString
import Derived.SizedLaws
namespace Go.Proofs.Ytcngfnmpghgocaa.dnAgain
open Go.ChangeShapes Go.WideShapes Go.ChangeAt Go.RowKit
open Go.ChangeMaps (open_string shut_string)
set_option linter.unusedVariables false

theorem read_size {l : List UInt8} {d : List (List Mt.Av)} (h : Mt.dnL l = .ok d) : l.length ≤ 4096 := by
  unfold Mt.dnL at h
  split at h
  · cases h
  · omega
/-- Bytes of which the first ones have turned. -/
def Loud (s : ByteArray) (B k : Nat) (w : World) : Prop := ∀ j (h : j < s.size), w.cell? ⟨B, j, none⟩ = some (.int .u8 ((if j < k then Mt.up s[j] else s[j]).toNat : Int)) ∧ w.frozen? ⟨B, j, none⟩ = false

set_option maxRecDepth 100000 in
set_option maxHeartbeats 2000000 in
theorem walk (s : ByteArray) (hs : s.size ≤ 140737488351232) (w : World) :
    Calls Try.prog 10 #[.string s] w fun e w' => e = .returned (.bool true) ∧ Below w.heap.size w w' := by
  have HP := Lib.hid (dparse_any s w (by omega))
  have HA := Lib.hid (fun u => awake9_any u)
  unfold ParsP at HP
  cases hd : Mt.dnL s.data.toList with
  | error e =>
    rw [hd] at HP
    have hei : ((e : Int) != 0) = true := by have := Mt.dnL_err hd; simp; omega
    clear hd hs
    go_enter Try.func10, Try.ntmps10
    go_wp2_with fail
    refine (HP.out).mono ?_
    rintro x w2 ⟨hb, rfl⟩
    have HB := Lib.hid hb
    clear hb
    go_wp2_with fail
    refine (HA.out _).mono ?_
    rintro x w3 ⟨rfl, hb⟩
    have HB3 := Lib.hid (HB.out.trans (hb.mono HB.out.size))
    clear hb
    go_wp2_with fail
    refine (HA.out _).mono ?_
    rintro x w4 ⟨rfl, hb⟩
    have HB4 := Lib.hid (HB3.out.trans (hb.mono HB3.out.size))
    clear hb
    go_wp2_with fail
    go_ret
    exact ⟨rfl, HB4.out⟩
  | ok d =>
    rw [hd] at HP
    have hsz : s.size ≤ 4096 := read_size hd
    have hask := (Mt.read_ask hd).1
    by_cases hlong : 4096 < (Mt.textL Mt.speltL d).length
    · have hpr : Mt.printD d = .error 5 := by unfold Mt.printD; rw [if_neg (by rw [hask]; simp), if_pos hlong]
      clear hd hask hlong
      go_enter Try.func10, Try.ntmps10
      go_wp2_with fail
      refine (HP.out).mono ?_
      rintro x w2 ⟨hb, v, rfl, hx⟩
      have HX := Lib.hid hx
      have HB := Lib.hid hb
      obtain ⟨va, vc, rfl, _⟩ := hx
      clear hb
      go_wp2_with fail
      refine (HA.out _).mono ?_
      rintro x w3 ⟨rfl, hb⟩
      have HB3 := Lib.hid (HB.out.trans (hb.mono HB.out.size))
      have HPR := Lib.hid (print_any (HX.out.below hb))
      rw [hpr] at HPR
      unfold textV at HPR
      clear hb hpr
      go_wp2_with fail
      refine (HPR.out).mono ?_
      rintro x w4 ⟨rfl, hb⟩
      have HB4 := Lib.hid (HB3.out.trans (hb.mono HB3.out.size))
      clear hb
      go_wp2_with fail
      go_ret
      exact ⟨rfl, HB4.out⟩
    · obtain ⟨t, ht⟩ : ∃ t, Mt.textL Mt.speltL d = t := ⟨_, rfl⟩
      have hpr : Mt.printD d = .ok t := by unfold Mt.printD; rw [if_neg (by rw [hask]; simp), if_neg hlong, ht]
      obtain ⟨k, hk⟩ : ∃ k, Mt.keyD d = .ok k := ⟨_, by unfold Mt.keyD; rw [hpr]⟩
      have htl : t.length ≤ 4096 := by rw [← ht]; omega
      have HPA := Lib.hid (fun u => dparse_any (Mt.str t) u (by rw [Mt.str_size]; omega))
      unfold ParsP at HPA
      rw [Mt.str_data, Mt.parse_print hpr] at HPA
      have HK := Lib.hid (fun u => key_any (Mt.str (s.data.toList.map Mt.up)) u (by rw [Mt.str_size, List.length_map]; show s.size ≤ _; omega))
      rw [Mt.str_data, Mt.loud_key hd hpr, hk] at HK
      have HC := Lib.hid (fun u => bytes_of9 s u)
      have HSZ := Lib.hid hsz
      unfold textV at HK
      have HKD := Lib.hid hk
      have HPD := Lib.hid hpr
      clear hd hask hlong hpr hk ht htl
      go_enter Try.func10, Try.ntmps10
      go_wp2_with fail
      refine (HP.out).mono ?_
      rintro x w2 ⟨hb, v, rfl, hx⟩
      have HX := Lib.hid hx
      have HB := Lib.hid hb
      obtain ⟨va, vc, rfl, _⟩ := hx
      clear hb
      go_wp2_with fail
      refine (HA.out _).mono ?_
      rintro x w3 ⟨rfl, hb⟩
      have HB3 := Lib.hid (HB.out.trans (hb.mono HB.out.size))
      have HX3 := Lib.hid (HX.out.below hb)
      have HPR := Lib.hid (print_any HX3.out)
      rw [HPD.out] at HPR
      unfold textV at HPR
      clear hb
      go_wp2_with fail
      refine (HPR.out).mono ?_
      rintro x w4 ⟨rfl, hb⟩
      have HB4 := Lib.hid (HB3.out.trans (hb.mono HB3.out.size))
      have HX4 := Lib.hid (HX3.out.below hb)
      clear hb
      go_wp2_with fail
      refine (HPA.out _).mono ?_
      rintro x w5 ⟨hb, v5, rfl, hy⟩
      have HB5 := Lib.hid (HB4.out.trans (hb.mono HB4.out.size))
      have HX5 := Lib.hid (HX4.out.below hb)
      have HY5 := Lib.hid hy
      obtain ⟨ya, yc, rfl, _⟩ := hy
      have HN := Lib.hid (norm_any HX5.out)
      rw [HKD.out] at HN
      unfold textV at HN
      clear hb
      go_wp2_with fail
      refine (HN.out).mono ?_
      rintro x w6 ⟨rfl, hb⟩
      have HB6 := Lib.hid (HB5.out.trans (hb.mono HB5.out.size))
      have HX6 := Lib.hid (HX5.out.below hb)
      have HY6 := Lib.hid (HY5.out.below hb)
      obtain ⟨cp, w7, hconv, hcells, hfro, hb7⟩ := HC.out w6
      have HB7 := Lib.hid (HB6.out.trans (hb7.mono HB6.out.size))
      have HD7 : Hid (IsDn w7 (.slice va d.length vc) d ∧ IsDn w7 (.slice ya d.length yc) d) := Lib.hid ⟨HX6.out.below hb7, HY6.out.below hb7⟩
      have HL0 : Hid (Loud s w6.heap.size 0 w7) := Lib.hid (by
        intro j hj
        refine ⟨?_, hfro j hj⟩
        rw [hcells j hj, if_neg (by omega)]
        congr 2
        simp [List.getD, List.getElem?_eq_getElem (show j < s.data.toList.length by simpa using hj)]; rfl)
      have HW6 := Lib.hid (Nat.le_trans HB6.out.size (Nat.le_refl w6.heap.size))
      have HB67 := Lib.hid hb7
      clear hb hcells hfro hb7
      go_wp2_with fail
      go_loopw [49] (fun i wr => ∃ j : Nat, j ≤ s.size ∧ i = .int .i64 j ∧ Hid (Loud s w6.heap.size j wr) ∧ Hid (Below w6.heap.size w6 wr))
        (fun i _ => s.size - (intOf i).toNat)
      case atStart => exact ⟨0, Nat.zero_le _, rfl, HL0, HB67⟩
      case round =>
        obtain ⟨j, hj, rfl, HL, HBL⟩ := hrel
        by_cases hlt : j < s.size
        · obtain ⟨hc0, hf0⟩ := HL.out j hlt
          rw [if_neg (Nat.lt_irrefl j)] at hc0
          obtain ⟨c, hc⟩ : ∃ c, s[j] = c := ⟨_, rfl⟩
          rw [hc] at hc0
          have hcl := c.toNat_lt
          have HSTAY : Hid (¬ (97 ≤ c.toNat ∧ c.toNat ≤ 122) → Loud s w6.heap.size (j + 1) wr) := Lib.hid (by
            intro h i hi
            refine ⟨?_, (HL.out i hi).2⟩
            by_cases e : i = j
            · subst e
              have h2 := (HL.out i hi).1
              rw [if_neg (Nat.lt_irrefl i)] at h2
              rw [if_pos (Nat.lt_succ_self i), h2, hc]
              congr 3
              rw [Mt.up_toNat]; unfold Mt.upN; rw [if_neg h]
            · have h2 := (HL.out i hi).1
              rw [h2]
              by_cases h3 : i < j
              · rw [if_pos h3, if_pos (by omega)]
              · rw [if_neg h3, if_neg (by omega)])
          have HTURN : Hid (97 ≤ c.toNat ∧ c.toNat ≤ 122 → Loud s w6.heap.size (j + 1) (wr.setCell ⟨w6.heap.size, j, none⟩ (.int .u8 ((c.toNat : Int) - 32)))) := Lib.hid (by
            intro h i hi
            refine ⟨?_, by rw [World.frozen?_setCell]; exact (HL.out i hi).2⟩
            by_cases e : i = j
            · subst e
              rw [World.cell?_setCell_same (h := (HL.out i hi).1), if_pos (Nat.lt_succ_self i), hc]
              congr 2
              rw [Mt.up_toNat]; unfold Mt.upN; rw [if_pos h]; omega
            · have h2 := (HL.out i hi).1
              rw [World.cell?_setCell_other (h := by intro e2; cases e2; exact e rfl), h2]
              by_cases h3 : i < j
              · rw [if_pos h3, if_pos (by omega)]
              · rw [if_neg h3, if_neg (by omega)])
          clear hc
          by_cases h97 : 97 ≤ c.toNat
          · by_cases h122 : c.toNat ≤ 122
            · have HT2 := Lib.hid (HTURN.out ⟨h97, h122⟩)
              have i1 : (97 : Int) ≤ (c.toNat : Int) := by omega
              have i2 : (c.toNat : Int) ≤ 122 := by omega
              clear HSTAY HTURN h97 h122
              go_wp2_with fail
              go_roundw
              case rel => exact ⟨j + 1, by omega, by go_num, HT2, Lib.hid (Below.setCell HBL.out (Nat.le_refl _) _)⟩
              case measure => simp [intOf]; omega
            · have HT2 := Lib.hid (HSTAY.out (by omega))
              have i1 : (97 : Int) ≤ (c.toNat : Int) := by omega
              have i2 : decide ((c.toNat : Int) ≤ 122) = false := decide_eq_false (by omega)
              clear HSTAY HTURN h97 h122
              go_wp2_with fail
              go_roundw
              case rel => exact ⟨j + 1, by omega, by go_num, HT2, HBL⟩
              case measure => simp [intOf]; omega
          · have HT2 := Lib.hid (HSTAY.out (by omega))
            have i1 : decide ((97 : Int) ≤ (c.toNat : Int)) = false := decide_eq_false (by omega)
            clear HSTAY HTURN h97
            go_wp2_with fail
            go_roundw
            case rel => exact ⟨j + 1, by omega, by go_num, HT2, HBL⟩
            case measure => simp [intOf]; omega
        · have hcv := run_convert_bytes_arg (P := Try.prog) wr 59 5 Try.underlying59 Try.underlying5 w6.heap.size 0 s.size cp ((s.data.toList.map Mt.up).map fun c => (c.toNat : Int)) (by simp) (fun i hi => by
            rw [Nat.zero_add, (HL.out i hi).1, if_pos (by omega)]
            congr 2
            simp [List.getD, List.getElem?_eq_getElem (show i < s.data.toList.length by simpa using hi)]; rfl) 9 Try.underlying9
          rw [Mt.str_nums] at hcv
          have HD := Lib.hid (And.intro (HX6.out.below HBL.out) (HY6.out.below HBL.out))
          have HB8 := Lib.hid (HB6.out.trans (HBL.out.mono HB6.out.size))
          go_wp2_with fail
          refine (HK.out _).mono ?_
          rintro x w8 ⟨rfl, hb⟩
          have HB9 := Lib.hid (HB8.out.trans (hb.mono HB8.out.size))
          have HS := Lib.hid (same9_any (HD.out.2.below hb) (HD.out.1.below hb))
          have hdd : decide (d = d) = true := decide_eq_true rfl
          rw [hdd] at HS
          clear hb hdd
          go_wp2_with fail
          refine (HS.out).mono ?_
          rintro x w9 ⟨rfl, hb⟩
          have HB10 := Lib.hid (HB9.out.trans (hb.mono HB9.out.size))
          clear hb
          go_wp2_with fail
          go_ret
          exact ⟨by simp, HB10.out⟩

/-! The step from the walk to the row. -/
theorem own : ownKnob Try.prog.godebug = none := by kernel_rfl
theorem laidOut : laidOutB Try.prog = true := by kernel_rfl

set_option maxRecDepth 100000 in
theorem lifted (os : Os) (started : os.Started) (H : Type) (enc : TypeId × Value → H) :
    ReturnsInHanded {} Try.checked os 10 .any (Rows.dnAgainSpec.pre6 enc Try.prog Try.f10 Rows.dnAgainRow.domain false) (Rows.dnAgainSpec.post enc Try.prog Try.f10 false true false false) := by
  refine returnsInHanded_of_change_sized (C := Try.checked) own started (by kernel_rfl) Try.func10
    (ChangeSpec.witness6 (enc := enc) (C := Try.checked) false ⟨#[], #[.string .empty], []⟩ 8 (by kernel_rfl) (by kernel_rfl) (by kernel_rfl) (by kernel_rfl)) ?_
  intro W base args ds gs before hval0 hW _ hsz0 _
  have hsz : (DataW.weightsEach Try.prog (Try.f10.params.toList ++ Rows.dnAgainSpec.plain.varTypes Try.prog) (ds ++ gs)).all (· ≤ reachBytes) = true := hsz0
  have hval : ∀ (j : Nat) t v, Try.f10.params[j]? = some t → args[j]? = some v → Value.okWide Try.prog W .any base t v := hval0
  have hW' := hW
  obtain ⟨p, q, hA0, hV, rfl, _, _⟩ := hW
  have hA : DataW.TrodAll enc Try.prog W 0 (fun _ => true) true Try.f10.params.toList args.toList ds p := hA0
  rw [Try.params10] at hA hval hsz
  obtain ⟨v0, vs0, d0, ds0, p0, q0, hargs, rfl, rfl, h0, r0⟩ := trodAll_cons hA
  obtain ⟨rfl, rfl, rfl⟩ := trodAll_nil r0
  obtain rfl : args = #[v0] := by cases args; simp_all
  obtain ⟨rfl, rfl⟩ := trodVars_none hV
  obtain ⟨a0, rfl, rfl, rfl, m0⟩ := open_string Try.underlying9 (hval 0 9 v0 rfl rfl) h0
  have w0 : a0.size ≤ 140737488351232 := by
    have h : a0.data.toList.length ≤ reachBytes := sized_string hsz (j := 0) (t := 9) rfl rfl
    simpa [reachBytes] using h
  clear hA0 hval0
  simp only [List.append_nil] at hW'
  refine (walk a0 w0 W ).mono fun e W' ⟨he, bel⟩ => ?_
  subst he
  exact ⟨_, rfl, _, _, _, [], _, [], hW', trodAll_mk1 (shut_bool Try.underlying4 _), (trodAll_cons_mk (shut_string Try.underlying9 m0) trodAll_mk0), rfl, bel.frame _, fun h => by cases h⟩

theorem proved : Rows.DnAgainSaid :=
  OpenClaim.holds_of_wide 10 Try.f10 rfl rfl rfl rfl rfl rfl rfl ⟨rfl, rfl, rfl, rfl, rfl⟩ rfl rfl rfl rfl rfl (by kernel_rfl) Try.func10 (by kernel_rfl)
    (of_decide_eq_true (by kernel_rfl)) (by unfold Func.isWrapper; first | (rw [if_pos (by decide +kernel)]; kernel_rfl) | (rw [if_neg (by decide +kernel)]; exact ⟨rfl, rfl⟩))
    (fun os started H enc _ => lifted os started H enc)

#print axioms proved
end Go.Proofs.Ytcngfnmpghgocaa.dnAgain
