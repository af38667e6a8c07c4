/-
  TlvDeep is proved: as many elements may be within one another as may be; one more is refused. No condition.
-/
import Derived.Test.YtfnggifadhploaaRows
import Derived.Test.YtfnggifadhploaaTvA
import Derived.Test.YtfnggifadhploaaTvF
import Derived.ProofKit
import Derived.OpenShut
import Derived.ShutString
import Derived.SizedLaws
namespace Go.Proofs.Ytfnggifadhploaa.tlvDeep
open Go.ChangeShapes Go.WideShapes Go.ChangeAt Go.RowKit
open Go.ChangeMaps (open_string shut_string)
set_option linter.unusedVariables false

/-- What holds at the head of a round. -/
def Deep (w : World) (k : Nat) (wr : World) : Prop := ∃ m ar c, wr.heap[w.heap.size]? = some (.cells #[.int .i64 48, .string ByteArray.empty, .slice ar m c] 24 (0, 0)) ∧ IsNd wr (fun b => b ≠ w.heap.size) (k + 1) (.agg #[.int .i64 48, .string ByteArray.empty, .slice ar m c]) (Mt.nest k) ∧ Below w.heap.size w wr
theorem deep_step {w wr : World} {k m c : Nat} {ar : Option Addr} (hrow : wr.heap[w.heap.size]? = some (.cells #[.int .i64 48, .string ByteArray.empty, .slice ar m c] 24 (0, 0)))
    (hnd : IsNd wr (fun b => b ≠ w.heap.size) (k + 1) (.agg #[.int .i64 48, .string ByteArray.empty, .slice ar m c]) (Mt.nest k)) (hbw : Below w.heap.size w wr) (o2 : Obj) :
    Deep w (k + 1) (((((wr.setCell ⟨w.heap.size, 0, none⟩ (.int .i64 48)).setCell ⟨w.heap.size, 1, none⟩ (.string ByteArray.empty)).setCell ⟨w.heap.size, 2, none⟩ (.slice (some ⟨wr.heap.size, 0, none⟩) 1 1)).alloc (.cells #[.int .i64 48, .string ByteArray.empty, .slice ar m c] 24)).alloc o2) := by
  have hlt := lt_of_block hrow
  obtain ⟨u, hu⟩ : ∃ u, ((wr.setCell ⟨w.heap.size, 0, none⟩ (.int .i64 48)).setCell ⟨w.heap.size, 1, none⟩ (.string ByteArray.empty)).setCell ⟨w.heap.size, 2, none⟩ (.slice (some ⟨wr.heap.size, 0, none⟩) 1 1) = u := ⟨_, rfl⟩
  have husz : u.heap.size = wr.heap.size := by rw [← hu]; simp
  have hurow : u.heap[w.heap.size]? = some (.cells #[.int .i64 48, .string ByteArray.empty, .slice (some ⟨wr.heap.size, 0, none⟩) 1 1] 24 (0, 0)) := by
    rw [← hu, heap_setCell_same _ _ _ _ _ _ (heap_setCell_same _ _ _ _ _ _ (heap_setCell_same _ _ _ _ _ _ hrow))]; rfl
  have huo : ∀ b, b ≠ w.heap.size → u.heap[b]? = wr.heap[b]? := fun b hb => by rw [← hu, heap_setCell_other _ _ _ _ hb, heap_setCell_other _ _ _ _ hb, heap_setCell_other _ _ _ _ hb]
  have hub : Below w.heap.size w u := by rw [← hu]; exact box_below hbw (Nat.le_refl _) _ _ _
  rw [hu]
  have hb1 := (Below.refl u.heap.size u).alloc (Nat.le_refl _) (.cells #[.int .i64 48, .string ByteArray.empty, .slice ar m c] 24)
  have hb2 := hb1.trans (((Below.refl (u.alloc (.cells #[.int .i64 48, .string ByteArray.empty, .slice ar m c] 24)).heap.size _).alloc (Nat.le_refl _) o2).mono hb1.size)
  have hk := heap_alloc_new u (.cells #[.int .i64 48, .string ByteArray.empty, .slice ar m c] 24)
  have hk2 := (((Below.refl (u.alloc (.cells #[.int .i64 48, .string ByteArray.empty, .slice ar m c] 24)).heap.size _).alloc (Nat.le_refl _) o2).block u.heap.size (by simp)).trans hk
  refine ⟨1, some ⟨wr.heap.size, 0, none⟩, 1, (hb2.block _ (by omega)).trans hurow, ?_, hub.trans (hb2.mono hub.size)⟩
  refine ⟨some ⟨wr.heap.size, 0, none⟩, 1, rfl, by simp [Mt.nest, Mt.Nd.data], by simp [Mt.nest, Mt.Nd.kids], .inr ⟨wr.heap.size, 0, rfl, by omega, fun i hi => ?_⟩⟩
  have hi0 : i = 0 := by simp [Mt.nest, Mt.Nd.kids] at hi; omega
  subst hi0
  rw [← husz]
  refine ⟨_, _, _, (cell_of_row _ u.heap.size 0 _ _ _ hk2), (cell_of_row _ u.heap.size 1 _ _ _ hk2), (cell_of_row _ u.heap.size 2 _ _ _ hk2), ?_⟩
  exact IsNd.keep (fun b hb _ => hb) (fun b hb hlt2 => (hb2.block b (by omega)).trans (huo b hb)) (Nat.le_refl _) hnd

theorem conv_two (W : World) (x y : Int) : (convert 54 9 (.slice (some ⟨W.heap.size, 0, none⟩) 2 2)).run Try.prog (W.alloc (.cells #[.int .u8 x, .int .u8 y] 5)) =
    .ok (.string (strOfNums [x, y])) (W.alloc (.cells #[.int .u8 x, .int .u8 y] 5)) :=
  run_convert_bytes_arg (P := Try.prog) _ 54 5 Try.underlying54 Try.underlying5 W.heap.size 0 2 2 [x, y] rfl (fun i hi => by
    rw [cell_of_row _ W.heap.size _ _ _ _ (heap_alloc_new W _)]
    match i, hi with
    | 0, _ => rfl
    | 1, _ => rfl) 9 Try.underlying9
theorem one_str (x : Int) (a : Nat) (hx : x = ((UInt8.ofNat a).toNat : Int)) : strOfNums [x] = Mt.str [UInt8.ofNat a] := by
  rw [hx]; exact Mt.str_nums [UInt8.ofNat a]
theorem two_str (x y : Int) (a b : Nat) (hx : x = ((UInt8.ofNat a).toNat : Int)) (hy : y = ((UInt8.ofNat b).toNat : Int)) : strOfNums [x, y] = Mt.str [UInt8.ofNat a, UInt8.ofNat b] := by
  rw [hx, hy]; exact Mt.str_nums [UInt8.ofNat a, UInt8.ofNat b]
theorem ret_sv {a b : ByteArray} (h : a = b) : Value.string a = .string b := by rw [h]

set_option maxRecDepth 100000 in
set_option maxHeartbeats 1000000 in
theorem walk (a : Int) (lg : Bool) (w0 : (Lit.int .i64 a).wf = true) (w : World) :
    Calls Try.prog 8 #[.int .i64 a, .bool lg] w fun e w' => e = .returned (.bool true) ∧ Below w.heap.size w w' := by
  obtain ⟨K, hK80, hK⟩ : ∃ K : Nat, K < 80 ∧ wrap64 ((IntKind.u64.wrap a).tmod 80) = (K : Int) := by
    have h0 := wrap_u64_nonneg a
    obtain ⟨u, hu⟩ := Int.eq_ofNat_of_zero_le h0
    rw [hu, Int.tmod_eq_emod_of_nonneg (by omega)]
    refine ⟨u % 80, by omega, ?_⟩
    simp only [wrap64]; omega
  have HD0 : Hid (Deep w 0 (w.alloc (.cells #[.int .i64 48, .string ByteArray.empty, .slice none 0 0] 24))) :=
    ⟨0, none, 0, heap_alloc_new w _, ⟨none, 0, rfl, by simp [Mt.nest, Mt.Nd.data], by simp [Mt.nest, Mt.Nd.kids], .inl rfl⟩, (Below.refl w.heap.size w).alloc (Nat.le_refl _) _⟩
  have hK80' : (K : Int) < 80 := by omega
  clear w0
  go_enter Try.func8, Try.ntmps8
  go_wp2_with fail
  clear hK
  go_loopw [7, 20] (fun sv iv wr => ∃ k : Nat, k ≤ K ∧ iv = .int .i64 k ∧ sv = .string (Mt.str (Mt.nestS lg k)) ∧ Hid (Deep w k wr)) (fun _ iv _ => K - (intOf iv).toNat)
  case atStart => exact ⟨0, Nat.zero_le _, rfl, rfl, HD0⟩
  case round =>
    obtain ⟨k, hk, rfl, rfl, HR⟩ := hrel
    obtain ⟨m, ar, c, hrow, hnd, hbw⟩ := HR.out
    have hsl := Mt.nestS_length lg k
    have hsz : (Mt.str (Mt.nestS lg k)).size = (Mt.nestS lg k).length := Mt.str_size _
    have c0 := cell_of_row wr w.heap.size 0 _ _ _ hrow
    have c1 := cell_of_row wr w.heap.size 1 _ _ _ hrow
    have c2 := cell_of_row wr w.heap.size 2 _ _ _ hrow
    have hlt := lt_of_block hrow
    by_cases hkK : k < K
    · have f0 := frozen_of_row wr w.heap.size 0 _ _ hrow
      have f1 := frozen_of_row wr w.heap.size 1 _ _ hrow
      have f2 := frozen_of_row wr w.heap.size 2 _ _ hrow
      have hsl2 : (Mt.nestS lg k).length ≤ 500 := by omega
      have hsi : ((Mt.nestS lg k).length : Int) ≤ 500 := by omega
      have HST := Lib.hid (fun o2 => deep_step hrow hnd hbw o2)
      have hcv1 : ∀ (W : World) (x : Int), W.heap.size = wr.heap.size + 1 → (convert 54 9 (.slice (some ⟨wr.heap.size + 1, 0, none⟩) 1 1)).run Try.prog (W.alloc (.cells #[.int .u8 x] 5)) = .ok (.string (strOfNums [x])) (W.alloc (.cells #[.int .u8 x] 5)) := fun W x h => by rw [← h]; exact conv_one W x
      have hcv2 : ∀ (W : World) (x y : Int), W.heap.size = wr.heap.size + 1 → (convert 54 9 (.slice (some ⟨wr.heap.size + 1, 0, none⟩) 2 2)).run Try.prog (W.alloc (.cells #[.int .u8 x, .int .u8 y] 5)) = .ok (.string (strOfNums [x, y])) (W.alloc (.cells #[.int .u8 x, .int .u8 y] 5)) := fun W x y h => by rw [← h]; exact conv_two W x y
      have hss : Mt.nestS lg (k + 1) = if (Mt.nestS lg k).length < 128 ∧ lg = false then 48 :: UInt8.ofNat (Mt.nestS lg k).length :: Mt.nestS lg k
        else 48 :: 131 :: 0 :: UInt8.ofNat ((Mt.nestS lg k).length / 256) :: UInt8.ofNat (Mt.nestS lg k).length :: Mt.nestS lg k := rfl
      have HSS := Lib.hid hss
      have ha1 : ∀ wx x, (Op.stringOp .add ⟨#[48]⟩ (strOfNums [x])).run Try.prog wx = .ok (.string (⟨#[48]⟩ ++ strOfNums [x])) wx := fun wx x => run_string_add_sum (w := wx) (P := Try.prog) _ _ (by rw [strOfNums_size]; simp [ByteArray.size])
      have ha2 : ∀ wx x, (Op.stringOp .add (⟨#[48]⟩ ++ strOfNums [x]) (Mt.str (Mt.nestS lg k))).run Try.prog wx = .ok (.string (⟨#[48]⟩ ++ strOfNums [x] ++ Mt.str (Mt.nestS lg k))) wx := fun wx x => run_string_add_sum (w := wx) (P := Try.prog) _ _ (by rw [ByteArray.size_append, strOfNums_size, hsz]; simp [ByteArray.size]; omega)
      have ha3 : ∀ wx x y, (Op.stringOp .add ⟨#[48, 131, 0]⟩ (strOfNums [x, y])).run Try.prog wx = .ok (.string (⟨#[48, 131, 0]⟩ ++ strOfNums [x, y])) wx := fun wx x y => run_string_add_sum (w := wx) (P := Try.prog) _ _ (by rw [strOfNums_size]; simp [ByteArray.size])
      have ha4 : ∀ wx x y, (Op.stringOp .add (⟨#[48, 131, 0]⟩ ++ strOfNums [x, y]) (Mt.str (Mt.nestS lg k))).run Try.prog wx = .ok (.string (⟨#[48, 131, 0]⟩ ++ strOfNums [x, y] ++ Mt.str (Mt.nestS lg k))) wx := fun wx x y => run_string_add_sum (w := wx) (P := Try.prog) _ _ (by rw [ByteArray.size_append, strOfNums_size, hsz]; simp [ByteArray.size]; omega)
      clear hss hrow hnd hbw HR
      generalize hS : Mt.nestS lg k = S at *
      clear hS
      by_cases hsh : S.length < 128
      · have hdd : decide (S.length < 128) = true := decide_eq_true hsh
        cases lg with
        | true =>
          go_wp2_with fail
          go_roundw
          case rel =>
            refine ⟨k + 1, by omega, by go_num, ret_sv ?_, HST.out _⟩
            rw [HSS.out, if_neg (by simp), two_str _ _ (S.length / 256) S.length (by simp [UInt8.toNat_ofNat']; omega) (by simp [UInt8.toNat_ofNat']; omega)]
            exact Mt.str_append ([48, 131, 0] ++ [UInt8.ofNat (S.length / 256), UInt8.ofNat S.length]) S
          case measure => simp [intOf]; omega
        | false =>
          go_wp2_with fail
          go_roundw
          case rel =>
            refine ⟨k + 1, by omega, by go_num, ret_sv ?_, HST.out _⟩
            rw [HSS.out, if_pos ⟨hsh, rfl⟩, one_str _ S.length (by simp [UInt8.toNat_ofNat']; omega)]
            exact Mt.str_append ([48] ++ [UInt8.ofNat S.length]) S
          case measure => simp [intOf]; omega
      · have hdd : decide (S.length < 128) = false := decide_eq_false hsh
        go_wp2_with fail
        go_roundw
        case rel =>
          refine ⟨k + 1, by omega, by go_num, ret_sv ?_, HST.out _⟩
          rw [HSS.out, if_neg (fun h => hsh h.1), two_str _ _ (S.length / 256) S.length (by simp [UInt8.toNat_ofNat']; omega) (by simp [UInt8.toNat_ofNat'])]
          exact Mt.str_append ([48, 131, 0] ++ [UInt8.ofNat (S.length / 256), UInt8.ofNat S.length]) S
        case measure => simp [intOf]; omega
    · obtain rfl : k = K := by omega
      have HP := Lib.hid (Put_any _ _ wr _ _ hnd)
      have HW := Lib.hid (fun W => Whole_any (Mt.str (Mt.nestS lg k)) W (by rw [hsz]; omega))
      have hwl : Mt.wholeL (Mt.nestS lg k) = if k < 64 then .ok (Mt.nest k) else .error 6 := by
        unfold Mt.wholeL
        rw [Mt.parse_nest lg 64 k (by omega)]
        by_cases h : k < 64
        · rw [if_pos h, if_pos h]; rfl
        · rw [if_neg h, if_neg h]
      have hpn := Mt.put_nest 64 k (by omega)
      have HND := Lib.hid hnd
      have HROW := Lib.hid hrow
      have HBW := Lib.hid hbw
      clear hnd hrow hbw HR hsl hsz HD0
      generalize hS : Mt.nestS lg k = S at *
      clear hS
      by_cases hlt64 : k < 64
      · have hd64 : decide ((64 : Int) < 1 + (k : Int)) = false := decide_eq_false (by omega)
        have hi64 : 1 + (k : Int) ≤ 64 := by omega
        obtain ⟨s, hs, _⟩ := hpn.1 hlt64
        rw [hs] at HP
        rw [if_pos hlt64] at hwl
        have HWL := Lib.hid hwl
        clear hpn hs hwl
        go_wp2_with fail
        refine (HP.out).mono ?_
        rintro x w1 ⟨rfl, hb1⟩
        have HB1 := Lib.hid (HBW.out.trans (hb1.mono HBW.out.size))
        have HR1 := Lib.hid ((hb1.block _ hlt).trans HROW.out)
        have HN1 := Lib.hid (HND.out.below hb1)
        clear hb1
        simp only [putV]
        go_wp2_with fail
        refine (HW.out _).mono ?_
        rintro x w2 ⟨hb2, hx⟩
        rw [Mt.str_data, HWL.out] at hx
        obtain ⟨v2, rfl, hn2⟩ := hx
        obtain ⟨na, nc, rfl⟩ := hn2.form
        have HB2 := Lib.hid (HB1.out.trans (hb2.mono HB1.out.size))
        have HR2 := Lib.hid ((hb2.block _ (lt_of_block HR1.out)).trans HR1.out)
        have HN2 := Lib.hid (HN1.out.below hb2)
        have HM2 := Lib.hid hn2
        have hlt2 := lt_of_block HR2.out
        clear hb2 hn2
        obtain ⟨O, hO⟩ : ∃ O, Obj.cells #[.int .i64 (Mt.nest k).tag, .string (Mt.str (Mt.nest k).data), .slice na (Mt.nest k).kids.length nc] 24 (0, 0) = O := ⟨_, rfl⟩
        have hbx := (Below.refl w2.heap.size w2).alloc (Nat.le_refl _) O
        have hrx := heap_alloc_new w2 O
        have HB3 := Lib.hid (HB2.out.trans (hbx.mono HB2.out.size))
        have HR3 := Lib.hid ((hbx.block _ hlt2).trans HR2.out)
        have HN3 := Lib.hid (HN2.out.below hbx)
        have HM3 := Lib.hid (HM2.out.below hbx)
        have HX3 := Lib.hid hrx
        have HAW := Lib.hid (awake7_any (w2.alloc O))
        subst hO
        clear hbx hrx
        go_wp2_with fail
        refine (HAW.out).mono ?_
        rintro x w4 ⟨rfl, hb4⟩
        have HB4 := Lib.hid (HB3.out.trans (hb4.mono HB3.out.size))
        obtain ⟨c0, c1, c2, _, _, _⟩ := box_of ((hb4.block _ (lt_of_block HR3.out)).trans HR3.out)
        obtain ⟨e0, e1, e2, _, _, _⟩ := box_of ((hb4.block _ (lt_of_block HX3.out)).trans HX3.out)
        have HSM := Lib.hid (same_any _ _ _ _ _ w4 _ _ (HM3.out.below hb4) (HN3.out.below hb4))
        clear hb4
        go_wp2_with fail
        refine (HSM.out).mono ?_
        rintro x w5 ⟨rfl, hb5⟩
        have HB5 := Lib.hid (HB4.out.trans (hb5.mono HB4.out.size))
        clear hb5
        go_wp2_with fail
        go_ret
        exact ⟨rfl, HB5.out⟩
      · have hd64 : decide ((64 : Int) < 1 + (k : Int)) = true := decide_eq_true (by omega)
        have hi64 : (64 : Int) < 1 + (k : Int) := by omega
        have hs := hpn.2 (by omega)
        rw [hs] at HP
        rw [if_neg hlt64] at hwl
        have HWL := Lib.hid hwl
        clear hpn hs hwl
        go_wp2_with fail
        refine (HP.out).mono ?_
        rintro x w1 ⟨rfl, hb1⟩
        have HB1 := Lib.hid (HBW.out.trans (hb1.mono HBW.out.size))
        clear hb1
        simp only [putV]
        go_wp2_with fail
        refine (HW.out _).mono ?_
        rintro x w2 ⟨hb2, hx⟩
        rw [Mt.str_data, HWL.out] at hx
        subst hx
        have HB2 := Lib.hid (HB1.out.trans (hb2.mono HB1.out.size))
        clear hb2
        unfold zeroN
        go_wp2_with fail
        refine (awake7_any _).mono ?_
        rintro x w4 ⟨rfl, hb4⟩
        have HB4 := Lib.hid ((HB2.out.alloc HB2.out.size _).trans (hb4.mono (by have := HB2.out.size; simp; omega)))
        clear hb4
        go_wp2_with fail
        go_ret
        exact ⟨rfl, HB4.out⟩

/-! The step from the walk to the row. -/
theorem own : ownKnob Try.prog.godebug = none := by kernel_rfl
theorem laidOut : laidOutB Try.prog = true := by kernel_rfl

set_option maxRecDepth 100000 in
theorem lifted (os : Os) (started : os.Started) (H : Type) (enc : TypeId × Value → H) :
    ReturnsInHanded {} Try.checked os 8 .any (Rows.tlvDeepSpec.pre6 enc Try.prog Try.f8 Rows.tlvDeepRow.domain false) (Rows.tlvDeepSpec.post enc Try.prog Try.f8 false true false false) := by
  refine returnsInHanded_of_change_sized (C := Try.checked) own started (by kernel_rfl) Try.func8
    (ChangeSpec.witness6 (enc := enc) (C := Try.checked) false ⟨#[], #[.int .i64 0, .bool false], []⟩ 8 (by kernel_rfl) (by kernel_rfl) (by kernel_rfl) (by kernel_rfl)) ?_
  intro W base args ds gs before hval0 hW _ hsz0 _
  have hsz : (DataW.weightsEach Try.prog (Try.f8.params.toList ++ Rows.tlvDeepSpec.plain.varTypes Try.prog) (ds ++ gs)).all (· ≤ reachBytes) = true := hsz0
  have hval : ∀ (j : Nat) t v, Try.f8.params[j]? = some t → args[j]? = some v → Value.okWide Try.prog W .any base t v := hval0
  have hW' := hW
  obtain ⟨p, q, hA0, hV, rfl, _, _⟩ := hW
  have hA : DataW.TrodAll enc Try.prog W 0 (fun _ => true) true Try.f8.params.toList args.toList ds p := hA0
  rw [Try.params8] at hA hval hsz
  obtain ⟨v0, vs0, d0, ds0, p0, q0, hargs, rfl, rfl, h0, r0⟩ := trodAll_cons hA
  obtain ⟨v1, vs1, d1, ds1, p1, q1, rfl, rfl, rfl, h1, r1⟩ := trodAll_cons r0
  obtain ⟨rfl, rfl, rfl⟩ := trodAll_nil r1
  obtain rfl : args = #[v0, v1] := by cases args; simp_all
  obtain ⟨rfl, rfl⟩ := trodVars_none hV
  obtain ⟨a0, rfl, rfl, rfl, w0⟩ := open_int Try.underlying3 (hval 0 3 v0 rfl rfl) h0
  obtain ⟨a1, rfl, rfl, rfl⟩ := open_bool Try.underlying4 (hval 1 4 v1 rfl rfl) h1
  clear hA0 hval0
  simp only [List.append_nil] at hW'
  refine (walk a0 a1 w0 W ).mono fun e W' ⟨he, bel⟩ => ?_
  subst he
  exact ⟨_, rfl, _, _, _, [], _, [], hW', trodAll_mk1 (shut_bool Try.underlying4 _), (trodAll_cons_mk (shut_int Try.underlying3 w0) (trodAll_cons_mk (shut_bool Try.underlying4 a1) trodAll_mk0)), rfl, bel.frame _, fun h => by cases h⟩

theorem proved : Rows.TlvDeepSaid :=
  OpenClaim.holds_of_wide 8 Try.f8 rfl rfl rfl rfl rfl rfl rfl ⟨rfl, rfl, rfl, rfl, rfl⟩ rfl rfl rfl rfl rfl (by kernel_rfl) Try.func8 (by kernel_rfl)
    (of_decide_eq_true (by kernel_rfl)) (by unfold Func.isWrapper; first | (rw [if_pos (by decide +kernel)]; kernel_rfl) | (rw [if_neg (by decide +kernel)]; exact ⟨rfl, rfl⟩))
    (fun os started H enc _ => lifted os started H enc)

#print axioms proved
end Go.Proofs.Ytfnggifadhploaa.tlvDeep
