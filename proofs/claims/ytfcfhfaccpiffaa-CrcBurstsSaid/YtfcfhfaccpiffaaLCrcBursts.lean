/-
  CrcBursts is proved: whatever is turned within four bytes in a row is seen by crc.Sum. No condition beyond the statement's own (texts of 4 to 20000 bytes are looked at).
-/
import Derived.Test.YtfcfhfaccpiffaaRows
import Derived.Test.YtfcfhfaccpiffaaBurst
import Derived.ProofKit
import Derived.OpenShut
import Derived.ShutString
import Derived.SizedLaws
namespace Go.Proofs.Ytfcfhfaccpiffaa.crcBursts
open Go.ChangeShapes Go.WideShapes Go.ChangeAt Go.RowKit
open Go.ChangeMaps (open_string shut_string)
set_option linter.unusedVariables false

theorem xor_turn (c : UInt8) (T k : Nat) : bits BinOp.xor IntKind.u8 (c.toNat : Int) ((T : Int) / 2 ^ (8 * k) % 256) = ((UInt8.ofNat (c.toNat ^^^ Mt.tb T k)).toNat : Int) := by
  have e : (T : Int) / 2 ^ (8 * k) % 256 = ((Mt.tb T k : Nat) : Int) := by unfold Mt.tb; simp
  have hc := c.toNat_lt
  rw [e, u8_xor_nat _ _ (by omega) (Mt.tb_lt T k), Mt.turned_toNat c _ (Mt.tb_lt T k)]

theorem awake_way (s : ByteArray) (size t : Int) (w : World) (h : 20000 < s.size ∨ s.size < 4 ∨ t = 0) :
    Calls Try.prog 13 #[.string s, .int .i64 size, .int .u32 t] w fun e w' => e = .returned (.bool true) ∧ Below w.heap.size w w' := by
  by_cases c1 : 20000 < s.size
  · have t1 : (20000 : Int) < (s.size : Int) := by omega
    clear h c1
    go_enter Try.func13, Try.ntmps13
    go_wp2_with fail
    refine (awake2_any _).mono ?_
    rintro e w1 ⟨rfl, hb1⟩
    have H1 := Lib.hid hb1
    clear hb1
    go_wp2_with fail
    go_ret
    exact ⟨rfl, H1.out⟩
  · have t1 : decide ((20000 : Int) < (s.size : Int)) = false := by simp; omega
    by_cases c2 : s.size < 4
    · have t2 : (s.size : Int) < 4 := by omega
      clear h c1 c2
      go_enter Try.func13, Try.ntmps13
      go_wp2_with fail
      refine (awake2_any _).mono ?_
      rintro e w1 ⟨rfl, hb1⟩
      have H1 := Lib.hid hb1
      clear hb1
      go_wp2_with fail
      go_ret
      exact ⟨rfl, H1.out⟩
    · have t2 : decide ((s.size : Int) < 4) = false := by simp; omega
      obtain rfl : t = 0 := by omega
      clear h c1 c2
      go_enter Try.func13, Try.ntmps13
      go_wp2_with fail
      refine (awake2_any _).mono ?_
      rintro e w1 ⟨rfl, hb1⟩
      have H1 := Lib.hid hb1
      clear hb1
      go_wp2_with fail
      go_ret
      exact ⟨rfl, H1.out⟩

set_option maxHeartbeats 800000 in
set_option maxRecDepth 100000 in
theorem walk (s : ByteArray) (size t : Int) (w0 : s.size ≤ 140737488351232) (w1 : (Lit.int .i64 size).wf = true) (w2 : (Lit.int .u32 t).wf = true) (w : World) :
    Calls Try.prog 13 #[.string s, .int .i64 size, .int .u32 t] w fun e w' => e = .returned (.bool true) ∧ Below w.heap.size w w' := by
  by_cases h : 20000 < s.size ∨ s.size < 4 ∨ t = 0
  · exact awake_way s size t w h
  · have ht := bounds_u32 w2
    obtain ⟨T, rfl⟩ := Int.eq_ofNat_of_zero_le ht.1
    obtain ⟨cp, wb, hconv, hcell, hfz, hbel⟩ := conv_bytes s w
    have t1 : decide ((20000 : Int) < (s.size : Int)) = false := by simp; omega
    have t2 : decide ((s.size : Int) < 4) = false := by simp; omega
    have t3 : ((T : Int) == 0) = false := by simp; omega
    have hs1 : (4 : Int) ≤ (s.size : Int) := by omega
    have hs2 : (s.size : Int) ≤ 20000 := by omega
    have HT := Lib.hid (show T < 4294967296 ∧ T ≠ 0 by omega)
    have HCELL := Lib.hid hcell
    have HFZ := Lib.hid hfz
    have HBEL := Lib.hid hbel
    obtain ⟨K, hK4, hK⟩ : ∃ K : Nat, K + 4 ≤ s.size ∧ wrap64 ((IntKind.u64.wrap size).tmod ((s.size : Int) - 3)) = (K : Int) := by
      have h0 := wrap_u64_nonneg size
      obtain ⟨u, hu⟩ := Int.eq_ofNat_of_zero_le h0
      rw [hu, Int.tmod_eq_emod_of_nonneg (by omega)]
      have e : ((s.size : Int) - 3) = ((s.size - 3 : Nat) : Int) := by omega
      rw [e]
      have hlt : u % (s.size - 3) < s.size - 3 := Nat.mod_lt _ (by omega)
      refine ⟨u % (s.size - 3), by omega, ?_⟩
      rw [← Int.natCast_emod]
      simp only [wrap64]; omega
    have HK := Lib.hid hK
    clear h ht w1 w2 hcell hfz hbel w0 hK
    go_enter Try.func13, Try.ntmps13
    go_wp2_with fail
    rw [HK.out]
    go_loopw [33] (fun i wr => ∃ k : Nat, k ≤ 4 ∧ i = .int .i64 k ∧ Hid (∀ j, j < s.size → wr.cell? ⟨w.heap.size, j, none⟩ = some (.int .u8 ((Mt.tl s.data.toList K T k).getD j 0).toNat)) ∧ Hid (∀ j, j < s.size → wr.frozen? ⟨w.heap.size, j, none⟩ = false) ∧ Hid (Below w.heap.size w wr))
      (fun i _ => 4 - (intOf i).toNat)
    case atStart => exact ⟨0, by omega, rfl, HCELL, HFZ, HBEL⟩
    case round =>
      obtain ⟨k, hk, rfl, HC, HF, HB⟩ := hrel
      by_cases hlt : k < 4
      · obtain ⟨c, hc⟩ : ∃ c, (Mt.tl s.data.toList K T k).getD (K + k) 0 = c := ⟨_, rfl⟩
        have hcell : wr.cell? ⟨w.heap.size, K + k, none⟩ = some (.int .u8 c.toNat) := by rw [← hc]; exact HC.out _ (by omega)
        have hfz := HF.out (K + k) (by omega)
        have hi0 : (0 : Int) ≤ (K : Int) + (k : Int) := by omega
        have hi1 : (K : Int) + (k : Int) < (s.size : Int) := by omega
        have HCC := Lib.hid hc
        have HCELL1 := Lib.hid hcell
        have HX := Lib.hid (xor_turn c T k)
        clear hc
        go_wp2
        go_region
        all_goals
          go_wp2
          go_roundw
          case rel =>
            refine ⟨k + 1, by omega, by go_num, Lib.hid (fun j hj => ?_), Lib.hid (fun j hj => ?_), Lib.hid (Below.setCell HB.out (Nat.le_refl _) _).drew⟩
            · rw [World.cell?_drew, HX.out]
              have hlen : (Mt.tl s.data.toList K T k).length = s.size := by rw [Mt.tl_length]; rfl
              by_cases hjk : j = K + k
              · subst hjk
                rw [World.cell?_setCell_same _ _ _ HCELL1.out]
                rw [Mt.tl, HCC.out]
                simp only [List.getD]
                rw [List.getElem?_set_self (by omega)]
                rfl
              · have hne : (⟨w.heap.size, K + k, none⟩ : Addr) ≠ ⟨w.heap.size, j, none⟩ := by
                  intro he
                  injection he with _ h2 _
                  exact hjk h2.symm
                rw [World.cell?_setCell_other _ _ _ _ hne, HC.out j hj, Mt.tl]
                simp only [List.getD]
                rw [List.getElem?_set_ne (by omega)]
            · rw [World.frozen?_drew, World.frozen?_setCell]
              exact HF.out j hj
          case measure => simp [intOf]; omega
      · obtain rfl : k = 4 := by omega
        have hlen : (Mt.tl s.data.toList K T 4).length = s.size := by rw [Mt.tl_length]; rfl
        have hcvt : ∀ u : World, Below wr.heap.size wr u → (convert 47 9 (.slice (some ⟨w.heap.size, 0, none⟩) s.size cp)).run Try.prog u = .ok (.string (Mt.str (Mt.tl s.data.toList K T 4))) u := fun u hu => by
          rw [← Mt.str_nums]
          exact run_convert_bytes_arg (P := Try.prog) u 47 5 Try.underlying47 Try.underlying5 w.heap.size 0 s.size cp ((Mt.tl s.data.toList K T 4).map fun c => (c.toNat : Int)) (by simpa using hlen) (fun i hi => by
            have hci := HC.out i hi
            have hblk : w.heap.size < wr.heap.size := World.block_lt_of_cell? wr ⟨w.heap.size, i, none⟩ hci
            rw [Nat.zero_add, hu.cell (p := ⟨w.heap.size, i, none⟩) hblk, hci]
            simp [List.getD, List.getElem?_eq_getElem (show i < (Mt.tl s.data.toList K T 4).length by omega)]) 9 Try.underlying9
        have HNE := Lib.hid (Mt.burst s.data.toList K T (by have : s.data.toList.length = s.size := rfl; omega) HT.out.1 HT.out.2)
        have hq1 := fun B u hB => sum_one (Mt.str (Mt.tl s.data.toList K T 4)) B u hB (by rw [Mt.str_size]; omega)
        have hq2 := fun B u hB => sum_one s B u hB (by omega)
        rw [Mt.str_data] at hq1
        have HCV := Lib.hid hcvt
        clear hcvt hlen
        obtain ⟨S, hS⟩ : ∃ S, Mt.str (Mt.tl s.data.toList K T 4) = S := ⟨_, rfl⟩
        obtain ⟨q1, he1⟩ : ∃ q, Mt.addS 0 (Mt.tl s.data.toList K T 4) = q := ⟨_, rfl⟩
        obtain ⟨q2, he2⟩ : ∃ q, Mt.addS 0 s.data.toList = q := ⟨_, rfl⟩
        rw [hS] at HCV hq1
        rw [he1] at hq1 HNE
        rw [he2] at hq2 HNE
        have Q1 := Lib.hid hq1
        have Q2 := Lib.hid hq2
        have hne : ((q1 : Int) != (q2 : Int)) = true := by
          have := HNE.out
          rw [bne_iff_ne]; omega
        clear hq1 hq2 hS he1 he2 HC HF
        go_wp2_with fail
        refine (awake2_any _).mono ?_
        rintro e w1 ⟨rfl, hb1⟩
        have hcv := HCV.out w1 hb1
        have H1 := Lib.hid (HB.out.trans (hb1.mono HB.out.size))
        clear hb1 HCV
        go_wp2_with fail
        refine (Q1.out _ _ (by simp)).mono ?_
        rintro e w' ⟨rfl, rfl⟩
        go_wp2_with fail
        refine (Q2.out _ _ (by simp)).mono ?_
        rintro e w' ⟨rfl, rfl⟩
        go_wp2_with fail
        go_ret
        exact ⟨Mt.ret_bool (by simp), (H1.out.alloc H1.out.size _).alloc (by have := H1.out.size; simp; omega) _⟩

/-! The step from the walk to the row. -/
theorem own : ownKnob Try.prog.godebug = none := by kernel_rfl
theorem laidOut : laidOutB Try.prog = true := by kernel_rfl

set_option maxRecDepth 100000 in
theorem lifted (os : Os) (started : os.Started) (H : Type) (enc : TypeId × Value → H) :
    ReturnsInHanded {} Try.checked os 13 .any (Rows.crcBurstsSpec.pre6 enc Try.prog Try.f13 Rows.crcBurstsRow.domain false) (Rows.crcBurstsSpec.post enc Try.prog Try.f13 false true false false) := by
  refine returnsInHanded_of_change_sized (C := Try.checked) own started (by kernel_rfl) Try.func13
    (ChangeSpec.witness6 (enc := enc) (C := Try.checked) false ⟨#[], #[.string .empty, .int .i64 0, .int .u32 0], []⟩ 8 (by kernel_rfl) (by kernel_rfl) (by kernel_rfl) (by kernel_rfl)) ?_
  intro W base args ds gs before hval0 hW _ hsz0 _
  have hsz : (DataW.weightsEach Try.prog (Try.f13.params.toList ++ Rows.crcBurstsSpec.plain.varTypes Try.prog) (ds ++ gs)).all (· ≤ reachBytes) = true := hsz0
  have hval : ∀ (j : Nat) t v, Try.f13.params[j]? = some t → args[j]? = some v → Value.okWide Try.prog W .any base t v := hval0
  have hW' := hW
  obtain ⟨p, q, hA0, hV, rfl, _, _⟩ := hW
  have hA : DataW.TrodAll enc Try.prog W 0 (fun _ => true) true Try.f13.params.toList args.toList ds p := hA0
  rw [Try.params13] at hA hval hsz
  obtain ⟨v0, vs0, d0, ds0, p0, q0, hargs, rfl, rfl, h0, r0⟩ := trodAll_cons hA
  obtain ⟨v1, vs1, d1, ds1, p1, q1, rfl, rfl, rfl, h1, r1⟩ := trodAll_cons r0
  obtain ⟨v2, vs2, d2, ds2, p2, q2, rfl, rfl, rfl, h2, r2⟩ := trodAll_cons r1
  obtain ⟨rfl, rfl, rfl⟩ := trodAll_nil r2
  obtain rfl : args = #[v0, v1, v2] := by cases args; simp_all
  obtain ⟨rfl, rfl⟩ := trodVars_none hV
  obtain ⟨a0, rfl, rfl, rfl, m0⟩ := open_string Try.underlying9 (hval 0 9 v0 rfl rfl) h0
  have w0 : a0.size ≤ 140737488351232 := by
    have h : a0.data.toList.length ≤ reachBytes := sized_string hsz (j := 0) (t := 9) rfl rfl
    simpa [reachBytes] using h
  obtain ⟨a1, rfl, rfl, rfl, w1⟩ := open_int Try.underlying3 (hval 1 3 v1 rfl rfl) h1
  obtain ⟨a2, rfl, rfl, rfl, w2⟩ := open_int Try.underlying39 (hval 2 39 v2 rfl rfl) h2
  clear hA0 hval0
  simp only [List.append_nil] at hW'
  refine (walk a0 a1 a2 w0 w1 w2 W ).mono fun e W' ⟨he, bel⟩ => ?_
  subst he
  exact ⟨_, rfl, _, _, _, [], _, [], hW', trodAll_mk1 (shut_bool Try.underlying4 _), (trodAll_cons_mk (shut_string Try.underlying9 m0) (trodAll_cons_mk (shut_int Try.underlying3 w1) (trodAll_cons_mk (shut_int Try.underlying39 w2) trodAll_mk0))), rfl, bel.frame _, fun h => by cases h⟩

theorem proved : Rows.CrcBurstsSaid :=
  OpenClaim.holds_of_wide 13 Try.f13 rfl rfl rfl rfl rfl rfl rfl ⟨rfl, rfl, rfl, rfl, rfl⟩ rfl rfl rfl rfl rfl (by kernel_rfl) Try.func13 (by kernel_rfl)
    (of_decide_eq_true (by kernel_rfl)) (by unfold Func.isWrapper; first | (rw [if_pos (by decide +kernel)]; kernel_rfl) | (rw [if_neg (by decide +kernel)]; exact ⟨rfl, rfl⟩))
    (fun os started H enc _ => lifted os started H enc)

#print axioms proved
end Go.Proofs.Ytfcfhfaccpiffaa.crcBursts
