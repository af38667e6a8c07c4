/-
  PassChecks is proved: any text, held against any password; also of one that is made, with one byte turned. No condition beyond the statement's own (passwords of at most 2000 bytes are looked at); the two listed package variables start as the program's text lays them.
-/
import Derived.Test.YtpdionmecflibaaDoorCards
import Derived.Test.YtpdionmecflibaaDoorTie
import Derived.Test.YtpdionmecflibaaDoorDoor
import Derived.Test.YtpdionmecflibaaDoorPass
import Derived.Test.YtpdionmecflibaaDoorRMake
import Derived.SevenTiedAt
import Derived.ProofKit
import Derived.OpenShut
import Derived.ShutString
import Derived.SizedLaws
import Derived.SliceStrings
import Derived.Lib.ConvBytes
import Derived.StillTailTactics
import Derived.Deep.QuietTactic
import Derived.BigQuiet
import Derived.Laws.BitsAllLaws
namespace Go.Proofs.YtpdionmecflibaaDoor.passChecks
open Go.ChangeShapes Go.WideShapes Go.ChangeAt Go.RowKit
open Go.ChangeMaps (open_string shut_string)
set_option linter.unusedVariables false

/-- []byte(s): a new row that holds bytes; nothing that was there turns. -/
theorem conv_new (s : ByteArray) (w : World) : ∃ (cp : Nat) (w1 : World), (convert 9 46 (.string s)).run Tryd.prog w = .ok (.slice (some ⟨w.heap.size, 0, none⟩) s.size cp) w1 ∧
    (∀ j, j < s.size → ∃ x : Int, w1.cell? ⟨w.heap.size, j, none⟩ = some (.int .u8 x)) ∧ (∀ j, j < s.size → w1.frozen? ⟨w.heap.size, j, none⟩ = false) ∧ Below w.heap.size w w1 := by
  refine ⟨grownCap w s.size 0 5, Lib.bytesWorld w 5 s, Lib.run_convert_string_bytes w 9 46 5 s Tryd.underlying9 Tryd.underlying46 Tryd.underlying5, fun j hj => ⟨_, Lib.bytesWorld_cell w 5 s j hj⟩, fun j hj => ?_, ?_⟩
  · have hsz : s.size ≤ (Lib.bytesCells w 5 s).size := by
      unfold Lib.bytesCells
      rw [Array.size_append, Array.size_map]
      exact Nat.le_add_right _ _
    simp only [World.frozen?, Lib.bytesWorld_at_new]
    simp; omega
  · have hsz := Lib.bytesWorld_size w 5 s
    refine ⟨?_, ?_, ?_, by omega, fun k hk => Lib.bytesWorld_at_old w 5 s k hk⟩
    · simp [Lib.bytesWorld, World.freeze, World.alloc, World.drew, -World.alloc_eq, -World.drew_eq]
    · simp [Lib.bytesWorld, World.freeze, World.alloc, World.drew, -World.alloc_eq, -World.drew_eq]
    · simp [Lib.bytesWorld, World.freeze, World.alloc, World.drew, -World.alloc_eq, -World.drew_eq]

/-- The number in a cell. -/
def numAt (w : World) (g j : Nat) : Int := match w.cell? ⟨g, j, none⟩ with
  | some (.int _ x) => x
  | _ => 0
/-- string(b) of bytes, whatever they are. -/
theorem conv_back (w : World) (g n cap : Nat) (h : ∀ j, j < n → ∃ x : Int, w.cell? ⟨g, j, none⟩ = some (.int .u8 x)) :
    ∃ T, (convert 46 9 (.slice (some ⟨g, 0, none⟩) n cap)).run Tryd.prog w = .ok (.string T) w :=
  ⟨_, run_convert_bytes_arg (P := Tryd.prog) w 46 5 Tryd.underlying46 Tryd.underlying5 g 0 n cap ((List.range n).map (numAt w g)) (by simp) (fun i hi => by
    obtain ⟨x, hx⟩ := h i hi
    have e : numAt w g i = x := by unfold numAt; rw [hx]
    rw [Nat.zero_add, hx]
    simp [List.getD, hi, e]) 9 Tryd.underlying9⟩

def arg (S P O : ByteArray) (n at' by' : Int) : Value := .agg #[.string S, .string P, .string O, .int .u64 n, .int .i64 at', .int .u8 by']
theorem nat_of {n : Int} (h : (Lit.int .u64 n).wf = true) : ∃ m : Nat, n = m ∧ m < 18446744073709551616 := by
  have hb := bounds_u64 h
  exact ⟨n.toNat, by omega, by omega⟩
theorem below_alloc' (w : World) (o : Obj) : Below w.heap.size w (w.alloc o) := (Below.refl _ _).alloc (Nat.le_refl _) _

/-- []byte(s): a new row that holds the text's bytes; nothing that was there turns. -/
theorem conv_bytes (s : ByteArray) (w : World) : ∃ (cp : Nat) (w1 : World), (convert 9 46 (.string s)).run Tryd.prog w = .ok (.slice (some ⟨w.heap.size, 0, none⟩) s.size cp) w1 ∧
    (∀ j, j < s.size → w1.cell? ⟨w.heap.size, j, none⟩ = some (.int .u8 (s.data.toList.getD j 0).toNat)) ∧ (∀ j, j < s.size → w1.frozen? ⟨w.heap.size, j, none⟩ = false) ∧ Below w.heap.size w w1 := by
  refine ⟨grownCap w s.size 0 5, Lib.bytesWorld w 5 s, Lib.run_convert_string_bytes w 9 46 5 s Tryd.underlying9 Tryd.underlying46 Tryd.underlying5, fun j hj => Lib.bytesWorld_cell w 5 s j hj, fun j hj => ?_, ?_⟩
  · have hsz : s.size ≤ (Lib.bytesCells w 5 s).size := by
      unfold Lib.bytesCells
      rw [Array.size_append, Array.size_map]
      exact Nat.le_add_right _ _
    simp only [World.frozen?, Lib.bytesWorld_at_new]
    simp; omega
  · have hsz := Lib.bytesWorld_size w 5 s
    refine ⟨?_, ?_, ?_, by omega, fun k hk => Lib.bytesWorld_at_old w 5 s k hk⟩
    · simp [Lib.bytesWorld, World.freeze, World.alloc, World.drew, -World.alloc_eq, -World.drew_eq]
    · simp [Lib.bytesWorld, World.freeze, World.alloc, World.drew, -World.alloc_eq, -World.drew_eq]
    · simp [Lib.bytesWorld, World.freeze, World.alloc, World.drew, -World.alloc_eq, -World.drew_eq]

theorem below_drewN2 {B : Nat} {a w : World} (m : Nat) (h : Below B a w) : Below B a (w.drewN m) := ⟨h.os, h.tape, h.output, h.size, h.block⟩

set_option maxRecDepth 100000 in
theorem walk_far (S P O : ByteArray) (n at' by' : Int) (h : 2000 < P.size ∨ 2000 < O.size) (w : World) (hg : Laid w) :
    Calls Tryd.prog 6 #[.agg #[.string S, .string P, .string O, .int .u64 n, .int .i64 at', .int .u8 by']] w fun e w' => e = .returned (.bool true) ∧ Below w.heap.size w w' := by
  have HG := Lib.hid hg
  have HB0 := Lib.hid (fun o m => below_drewN2 m (below_alloc' w o))
  clear hg
  by_cases h1 : 2000 < P.size
  · have t1 : (2000 : Int) < (P.size : Int) := by omega
    clear h h1
    go_enter Tryd.func6, Tryd.ntmps6
    go_wp2_with fail
    go_quiet (fail)
    go_wp2_with fail
    refine (awake4_any _ (HG.out.below (HB0.out _ _) (Nat.le_refl _))).mono ?_
    rintro e w2 ⟨rfl, hb⟩
    have HB := Lib.hid ((HB0.out _ _).trans (hb.mono (HB0.out _ _).size))
    clear hb
    go_wp2_with fail
    go_ret
    exact ⟨rfl, HB.out⟩
  · have t1 : (P.size : Int) ≤ 2000 := by omega
    have t2 : (2000 : Int) < (O.size : Int) := by omega
    clear h h1
    go_enter Tryd.func6, Tryd.ntmps6
    go_wp2_with fail
    go_quiet (fail)
    go_wp2_with fail
    refine (awake4_any _ (HG.out.below (HB0.out _ _) (Nat.le_refl _))).mono ?_
    rintro e w2 ⟨rfl, hb⟩
    have HB := Lib.hid ((HB0.out _ _).trans (hb.mono (HB0.out _ _).size))
    clear hb
    go_wp2_with fail
    go_ret
    exact ⟨rfl, HB.out⟩

set_option maxHeartbeats 1600000 in
set_option maxRecDepth 100000 in
theorem walk_none (S P O : ByteArray) (n : Nat) (hn : n < 18446744073709551616) (at' by' : Int) (hP : P.size ≤ 2000) (hO : O.size ≤ 2000) (hbad : P.size = 0 ∨ 256 < P.size) (w : World) (hg : Laid w) :
    Calls Tryd.prog 6 #[.agg #[.string S, .string P, .string O, .int .u64 n, .int .i64 at', .int .u8 by']] w fun e w' => e = .returned (.bool true) ∧ Below w.heap.size w w' := by
  have HG := Lib.hid hg
  have HB0 := Lib.hid (fun o m => below_drewN2 m (below_alloc' w o))
  have HF := Lib.hid (show ∀ m, ((w.alloc (.cells #[.string S, .string P, .string O, .int .u64 n, .int .i64 at', .int .u8 by'] 45)).drewN m).cell? ⟨w.heap.size, 3, none⟩ = some (.int .u64 (n : Int)) from fun m => by
    have h : (w.alloc (.cells #[.string S, .string P, .string O, .int .u64 n, .int .i64 at', .int .u8 by'] 45)).cell? ⟨w.heap.size, 3, none⟩ = some (.int .u64 (n : Int)) := by
      rw [cell_of_row _ _ _ _ _ _ (heap_alloc_new w _)]; rfl
    exact h)
  have t1 : (P.size : Int) ≤ 2000 := by omega
  have t2 : (O.size : Int) ≤ 2000 := by omega
  have HM := Lib.hid (fun u => rmake_any P n hn u)
  have HMV : Hid (((Mt.make P n).2 == 0) = false) := Lib.hid (by
    rcases hbad with h | h
    · rw [Mt.make_empty n h]; rfl
    · rw [Mt.make_long n h]; rfl)
  generalize Mt.make P n = r at HM HMV
  obtain ⟨T, e⟩ := r
  dsimp only at HM HMV
  have he := HMV.out
  clear hg hbad HMV hP hO
  go_enter Tryd.func6, Tryd.ntmps6
  go_wp2_with fail
  go_quiet (fail)
  have hcell3 := HF.out nq
  have HB1 := Lib.hid (HB0.out (.cells #[.string S, .string P, .string O, .int .u64 n, .int .i64 at', .int .u8 by'] 45) nq)
  generalize ((w.alloc (.cells #[.string S, .string P, .string O, .int .u64 n, .int .i64 at', .int .u8 by'] 45)).drewN nq) = w1 at hcell3 HB1 ⊢
  go_wp2_with fail
  refine (HM.out _).mono ?_
  rintro x w2 ⟨rfl, hb⟩
  have HB2 := Lib.hid (HB1.out.trans (hb.mono HB1.out.size))
  clear hb HB1 HF HB0
  have HC1 := Lib.hid (fun u hgu => check_any S P u hgu)
  have HR1 := Lib.hid (fun u => rcheck_any S P u)
  have HC2 := Lib.hid (fun u hgu => check_any T P u hgu)
  have HR2 := Lib.hid (fun u => rcheck_any T P u)
  have HC3 := Lib.hid (fun u hgu => check_any T O u hgu)
  have HR3 := Lib.hid (fun u => rcheck_any T O u)
  generalize Mt.check S P = c1 at HC1 HR1
  generalize Mt.check T P = c2 at HC2 HR2
  generalize Mt.check T O = c3 at HC3 HR3
  go_wp2_with fail
  refine (awake4_any _ (HG.out.below HB2.out (Nat.le_refl _))).mono ?_
  rintro x v1 ⟨rfl, hb⟩
  have HT1 := Lib.hid (HB2.out.trans (hb.mono HB2.out.size))
  clear hb HB2
  go_wp2_with fail
  refine (HC1.out _ (HG.out.below HT1.out (Nat.le_refl _))).mono ?_
  rintro x v2 ⟨rfl, hb⟩
  have HT2 := Lib.hid (HT1.out.trans (hb.mono HT1.out.size))
  clear hb HT1
  go_wp2_with fail
  refine (HR1.out _).mono ?_
  rintro x v3 ⟨rfl, hb⟩
  have HT3 := Lib.hid (HT2.out.trans (hb.mono HT2.out.size))
  clear hb HT2
  go_wp2_with fail
  refine (HC2.out _ (HG.out.below HT3.out (Nat.le_refl _))).mono ?_
  rintro x v4 ⟨rfl, hb⟩
  have HT4 := Lib.hid (HT3.out.trans (hb.mono HT3.out.size))
  clear hb HT3
  go_wp2_with fail
  refine (HR2.out _).mono ?_
  rintro x v5 ⟨rfl, hb⟩
  have HT5 := Lib.hid (HT4.out.trans (hb.mono HT4.out.size))
  clear hb HT4
  go_wp2_with fail
  refine (HC3.out _ (HG.out.below HT5.out (Nat.le_refl _))).mono ?_
  rintro x v6 ⟨rfl, hb⟩
  have HT6 := Lib.hid (HT5.out.trans (hb.mono HT5.out.size))
  clear hb HT5
  go_wp2_with fail
  refine (HR3.out _).mono ?_
  rintro x v7 ⟨rfl, hb⟩
  have HT7 := Lib.hid (HT6.out.trans (hb.mono HT6.out.size))
  clear hb HT6
  go_wp2_with fail
  go_ret
  exact ⟨rfl, HT7.out⟩

set_option maxHeartbeats 1600000 in
set_option maxRecDepth 100000 in
theorem walk_yes (S P O : ByteArray) (n : Nat) (hn : n < 18446744073709551616) (at' by' : Int) (hby : (Lit.int .u8 by').wf = true) (hP : P.size ≤ 2000) (hO : O.size ≤ 2000) (h0 : 0 < P.size) (h1 : P.size ≤ 256) (w : World) (hg : Laid w) :
    Calls Tryd.prog 6 #[.agg #[.string S, .string P, .string O, .int .u64 n, .int .i64 at', .int .u8 by']] w fun e w' => e = .returned (.bool true) ∧ Below w.heap.size w w' := by
  have HG := Lib.hid hg
  have HB0 := Lib.hid (fun o m => below_drewN2 m (below_alloc' w o))
  have HF := Lib.hid (show ∀ m, ((w.alloc (.cells #[.string S, .string P, .string O, .int .u64 n, .int .i64 at', .int .u8 by'] 45)).drewN m).heap[w.heap.size]? = some (.cells #[.string S, .string P, .string O, .int .u64 n, .int .i64 at', .int .u8 by'] 45 (0, 0)) from fun m => by
    have h : (w.alloc (.cells #[.string S, .string P, .string O, .int .u64 n, .int .i64 at', .int .u8 by'] 45)).heap[w.heap.size]? = some (.cells #[.string S, .string P, .string O, .int .u64 n, .int .i64 at', .int .u8 by'] 45 (0, 0)) := heap_alloc_new w _
    exact h)
  have t1 : (P.size : Int) ≤ 2000 := by omega
  have t2 : (O.size : Int) ≤ 2000 := by omega
  have HM := Lib.hid (fun u => rmake_any P n hn u)
  rw [Mt.make_yes n h0 h1] at HM
  dsimp only at HM
  have hz := Mt.mk_size n P
  obtain ⟨T, hT⟩ : ∃ T, Mt.mk n P = T := ⟨_, rfl⟩
  rw [hT] at HM hz
  clear hT
  obtain ⟨K, hK88, hK⟩ : ∃ K : Nat, K < 88 ∧ wrap64 ((IntKind.u64.wrap at').tmod 88) = (K : Int) := by
    have h0 := wrap_u64_nonneg at'
    obtain ⟨u, hu⟩ := Int.eq_ofNat_of_zero_le h0
    rw [hu, Int.tmod_eq_emod_of_nonneg (by omega)]
    have hlt : u % 88 < 88 := Nat.mod_lt _ (by omega)
    refine ⟨u % 88, hlt, ?_⟩
    simp only [wrap64]; omega
  have HK := Lib.hid hK
  have HZ := Lib.hid hz
  clear hg hP hO h0 h1 hK
  go_enter Tryd.func6, Tryd.ntmps6
  go_wp2_with fail
  go_quiet (fail)
  have hr1 := HF.out nq
  have HB1 := Lib.hid (HB0.out (.cells #[.string S, .string P, .string O, .int .u64 n, .int .i64 at', .int .u8 by'] 45) nq)
  generalize ((w.alloc (.cells #[.string S, .string P, .string O, .int .u64 n, .int .i64 at', .int .u8 by'] 45)).drewN nq) = w1 at hr1 HB1 ⊢
  have hcell3 : w1.cell? ⟨w.heap.size, 3, none⟩ = some (.int .u64 (n : Int)) := by rw [cell_of_row _ _ _ _ _ _ hr1]; rfl
  have HR1' := Lib.hid hr1
  clear hr1
  go_wp2_with fail
  refine (HM.out _).mono ?_
  rintro x w2 ⟨rfl, hb⟩
  have HB2 := Lib.hid (HB1.out.trans (hb.mono HB1.out.size))
  have hr2 := hb.block w.heap.size (lt_of_block HR1'.out)
  rw [HR1'.out] at hr2
  clear hb HB1 HF HB0 HM
  obtain ⟨cap, w3, hconv, hcells, hfz, hb3⟩ := conv_bytes T w2
  have hr3 := (hb3.block w.heap.size (lt_of_block hr2)).trans hr2
  have HB3 := Lib.hid (HB2.out.trans (hb3.mono HB2.out.size))
  have hg3 : w2.heap.size < w3.heap.size := World.block_lt_of_cell? w3 _ (hcells 0 (by omega))
  have hq4 : w3.cell? ⟨w.heap.size, 4, none⟩ = some (.int .i64 at') := by rw [cell_of_row _ _ _ _ _ _ hr3]; rfl
  have hq5 : w3.cell? ⟨w.heap.size, 5, none⟩ = some (.int .u8 by') := by rw [cell_of_row _ _ _ _ _ _ hr3]; rfl
  clear hr2 hb3 hr3 HR1' hcell3
  rw [HZ.out] at hconv hcells hfz
  have HGE := Lib.hid (show w.heap.size ≤ w2.heap.size from HB2.out.size)
  generalize w2.heap.size = g at *
  have HCE := Lib.hid hcells
  go_wp2_with fail
  obtain ⟨c, hc⟩ : ∃ c, T.data.toList.getD K 0 = c := ⟨_, rfl⟩
  have hck : w3.cell? ⟨g, K, none⟩ = some (.int .u8 (c.toNat : Int)) := by rw [hcells K hK88, hc]
  have hfk := hfz K hK88
  clear hcells hfz
  have hki : (K : Int) < 88 := by omega
  have hw88 : IntKind.u64.wrap 88 = 88 := by decide
  have hwk : IntKind.i64.wrap ((IntKind.u64.wrap at').tmod 88) = (K : Int) := by
    have h := HK.out
    simp only [wrap64] at h
    rw [IntKind.wrap_i64]
    exact h
  clear hconv
  refine wp_region_still_tail 15 (by kernel_rfl) (by kernel_rfl) ?_
  simp only [List.take_succ_cons, List.take_zero, List.drop_succ_cons, List.drop_zero]
  still_step
  still_step
  still_step
  still_step
  still_step
  still_step
  still_step
  still_step
  still_step
  still_step
  still_step
  still_step
  still_step
  still_step
  still_step
  refine wpStill_nil ?_
  change wpList _ _ _ _ _ w3.drew
  obtain ⟨b, hb⟩ : ∃ b : UInt8, bits .xor .u8 (c.toNat : Int) by' = (b.toNat : Int) := by
    have hy := bounds_u8 hby
    obtain ⟨y, rfl⟩ := Int.eq_ofNat_of_zero_le hy.1
    refine ⟨c ^^^ UInt8.ofNat y, ?_⟩
    have h := u8_xor_nat c.toNat y c.toNat_lt (by omega)
    have h2 : (c ^^^ UInt8.ofNat y).toNat = c.toNat ^^^ y := by
      rw [UInt8.toNat_xor, UInt8.toNat_ofNat', Nat.mod_eq_of_lt (by omega)]
    rw [h2]; exact h
  rw [hb]
  have hlen : (T.data.toList.set K b).length = 88 := by rw [List.length_set]; exact HZ.out
  have hcv : (convert 46 9 (.slice (some ⟨g, 0, none⟩) 88 cap)).run Tryd.prog (w3.setCell ⟨g, K, none⟩ (.int .u8 (b.toNat : Int))).drew = .ok (.string (Mt.str (T.data.toList.set K b))) (w3.setCell ⟨g, K, none⟩ (.int .u8 (b.toNat : Int))).drew := by
    rw [← Mt.str_nums]
    exact run_convert_bytes_arg (P := Tryd.prog) (w3.setCell ⟨g, K, none⟩ (.int .u8 (b.toNat : Int))).drew 46 5 Tryd.underlying46 Tryd.underlying5 g 0 88 cap ((T.data.toList.set K b).map fun c => (c.toNat : Int)) (by simpa using HZ.out) (fun i hi => by
      have hi88 : i < 88 := hi
      rw [World.cell?_drew, Nat.zero_add]
      by_cases hik : i = K
      · subst hik
        rw [World.cell?_setCell_same _ _ _ hck]
        simp only [List.getD, List.map_set, Option.getD_some, Value.int.injEq, Option.some.injEq, true_and]
        rw [List.getElem?_set_self (by rw [List.length_map]; have h9 : T.data.toList.length = 88 := HZ.out; omega)]
        rfl
      · have hne : (⟨g, K, none⟩ : Addr) ≠ ⟨g, i, none⟩ := by
          intro he
          injection he with _ h2 _
          exact hik h2.symm
        rw [World.cell?_setCell_other _ _ _ _ hne, HCE.out i hi88]
        simp [List.getD, List.getElem?_set, hik]
        rw [if_neg (fun e => hik e.symm), Array.getElem?_eq_getElem (show i < T.data.size from by have h9 : T.data.size = 88 := HZ.out; omega)]
        rfl) 9 Tryd.underlying9
  have HB5 := Lib.hid ((HB3.out.setCell (by exact HGE.out) (.int .u8 (b.toNat : Int)) (p := ⟨g, K, none⟩)).drew)
  generalize hT2 : Mt.str (T.data.toList.set K b) = T2 at hcv
  clear HB3 HCE
  have HC1 := Lib.hid (fun u hgu => check_any S P u hgu)
  have HR1 := Lib.hid (fun u => rcheck_any S P u)
  have HC2 := Lib.hid (fun u hgu => check_any T2 P u hgu)
  have HR2 := Lib.hid (fun u => rcheck_any T2 P u)
  have HC3 := Lib.hid (fun u hgu => check_any T2 O u hgu)
  have HR3 := Lib.hid (fun u => rcheck_any T2 O u)
  generalize Mt.check S P = c1 at HC1 HR1
  generalize Mt.check T2 P = c2 at HC2 HR2
  generalize Mt.check T2 O = c3 at HC3 HR3
  go_wp2_with fail
  refine (awake4_any _ (HG.out.below HB5.out (Nat.le_refl _))).mono ?_
  rintro x v1 ⟨rfl, hb⟩
  have HT1 := Lib.hid (HB5.out.trans (hb.mono HB5.out.size))
  clear hb HB5
  go_wp2_with fail
  refine (HC1.out _ (HG.out.below HT1.out (Nat.le_refl _))).mono ?_
  rintro x v2 ⟨rfl, hb⟩
  have HT2 := Lib.hid (HT1.out.trans (hb.mono HT1.out.size))
  clear hb HT1
  go_wp2_with fail
  refine (HR1.out _).mono ?_
  rintro x v3 ⟨rfl, hb⟩
  have HT3 := Lib.hid (HT2.out.trans (hb.mono HT2.out.size))
  clear hb HT2
  go_wp2_with fail
  refine (HC2.out _ (HG.out.below HT3.out (Nat.le_refl _))).mono ?_
  rintro x v4 ⟨rfl, hb⟩
  have HT4 := Lib.hid (HT3.out.trans (hb.mono HT3.out.size))
  clear hb HT3
  go_wp2_with fail
  refine (HR2.out _).mono ?_
  rintro x v5 ⟨rfl, hb⟩
  have HT5 := Lib.hid (HT4.out.trans (hb.mono HT4.out.size))
  clear hb HT4
  go_wp2_with fail
  refine (HC3.out _ (HG.out.below HT5.out (Nat.le_refl _))).mono ?_
  rintro x v6 ⟨rfl, hb⟩
  have HT6 := Lib.hid (HT5.out.trans (hb.mono HT5.out.size))
  clear hb HT5
  go_wp2_with fail
  refine (HR3.out _).mono ?_
  rintro x v7 ⟨rfl, hb⟩
  have HT7 := Lib.hid (HT6.out.trans (hb.mono HT6.out.size))
  clear hb HT6
  go_wp2_with fail
  go_ret
  exact ⟨rfl, HT7.out⟩

theorem walk (S P O : ByteArray) (x at' by' : Int) (w0 : (Lit.int .u64 x).wf = true) (w1 : (Lit.int .u8 by').wf = true) (w : World) (hg : Laid w) :
    Calls Tryd.prog 6 #[.agg #[.string S, .string P, .string O, .int .u64 x, .int .i64 at', .int .u8 by']] w fun e w' => e = .returned (.bool true) ∧ Below w.heap.size w w' := by
  obtain ⟨n, rfl, hn⟩ := nat_of w0
  by_cases h : 2000 < P.size ∨ 2000 < O.size
  · exact walk_far S P O n at' by' h w hg
  · by_cases hb : P.size = 0 ∨ 256 < P.size
    · exact walk_none S P O n hn at' by' (by omega) (by omega) hb w hg
    · exact walk_yes S P O n hn at' by' w1 (by omega) (by omega) (by omega) (by omega) w hg

/-! The step from the walk to the row. -/
theorem own : ownKnob Tryd.prog.godebug = none := by kernel_rfl
theorem laidOut : laidOutB Tryd.prog = true := by kernel_rfl
theorem cellsTry : Tryd.prog.cellsOf 45 = 6 := by kernel_rfl
theorem cellsStr : Tryd.prog.cellsOf 9 = 1 := by kernel_rfl
theorem cellsU64 : Tryd.prog.cellsOf 34 = 1 := by kernel_rfl
theorem cellsInt : Tryd.prog.cellsOf 3 = 1 := by kernel_rfl
theorem cellsU8 : Tryd.prog.cellsOf 5 = 1 := by kernel_rfl
/-- A try that came in: its six fields. -/
theorem open_try {H : Type} {enc : TypeId × Value → H} {W : World} {r : Reach} {b0 : Nat} {v : Value} {d : DataW H} {p : List MemPlace} (hv : Value.okWide Tryd.prog W r b0 45 v) (h : DataW.Trod enc Tryd.prog W 0 (fun _ => true) true 45 v d p) :
    ∃ (S P O : ByteArray) (n a b : Int), v = .agg #[.string S, .string P, .string O, .int .u64 n, .int .i64 a, .int .u8 b] ∧ (Lit.int .u64 n).wf = true ∧ (Lit.int .u8 b).wf = true := by
  obtain ⟨cs, rfl, hz⟩ := okWide_struct Tryd.underlying45 hv
  rw [cellsTry] at hz
  obtain ⟨l⟩ := cs
  obtain ⟨fuel, hf⟩ := h
  obtain ⟨xs, m, _, _, _, hxl, hg⟩ := DataW.trod_struct Tryd.underlying45 hf
  match l, hz, xs, hxl with
  | [c0, c1, c2, c3, c4, c5], _, [y0, y1, y2, y3, y4, y5], _ =>
    obtain ⟨S, e0, _⟩ := DataW.trod_string Tryd.underlying9 (x := y0) (by simpa [cellsStr, Value.cells] using hg 0 _ rfl)
    obtain ⟨P, e1, _⟩ := DataW.trod_string Tryd.underlying9 (x := y1) (by simpa [cellsStr, Value.cells] using hg 1 _ rfl)
    obtain ⟨O, e2, _⟩ := DataW.trod_string Tryd.underlying9 (x := y2) (by simpa [cellsStr, Value.cells] using hg 2 _ rfl)
    obtain ⟨n, e3, _, hn⟩ := DataW.trod_int Tryd.underlying34 (x := y3) (by simpa [cellsU64, Value.cells] using hg 3 _ rfl)
    obtain ⟨a, e4, _⟩ := DataW.trod_int Tryd.underlying3 (x := y4) (by simpa [cellsInt, Value.cells] using hg 4 _ rfl)
    obtain ⟨b, e5, _, hb⟩ := DataW.trod_int Tryd.underlying5 (x := y5) (by simpa [cellsU8, Value.cells] using hg 5 _ rfl)
    simp only [List.cons.injEq, and_true] at e0 e1 e2 e3 e4 e5
    subst e0 e1 e2 e3 e4 e5
    exact ⟨S, P, O, n, a, b, rfl, hn, hb⟩

set_option maxRecDepth 100000 in
theorem lifted (os : Os) (started : os.Started) (H : Type) (enc : TypeId × Value → H) :
    ReturnsInHanded {} Tryd.checked os 6 .any (fun w args => (Rows.passChecksSpec.pre enc Tryd.prog Tryd.f6 [] false w args ∧ laidMetH Tryd.prog laid2 w) ∧ sizedMet enc Tryd.prog Tryd.f6 (OpenSpec.ofChange Rows.passChecksSpec) false w args)
      (Rows.passChecksSpec.post enc Tryd.prog Tryd.f6 false true false false) := by
  refine returnsInHanded_of_change_and (C := Tryd.checked) (X := fun w _ => laidMetH Tryd.prog laid2 w) (fun _ _ _ hh h => h.of_heap hh) own started (by kernel_rfl) Tryd.func6
    (ChangeSpec.witness_shaped (enc := enc) (C := Tryd.checked) (os := os) (X := fun w _ => laidMetH Tryd.prog laid2 w) false (World.doorLaid Tryd.prog 400 os) #[.agg #[.string .empty, .string .empty, .string .empty, .int .u64 0, .int .i64 0, .int .u8 0]] 8 rfl (World.shaped_of_RefB (by kernel_rfl) (by kernel_rfl)) (by kernel_rfl) (by kernel_rfl) (by kernel_rfl) (door_met os _)) ?_
  intro W base args ds gs before hval0 hW _ hsz0 hL _
  have hsz : (DataW.weightsEach Tryd.prog (Tryd.f6.params.toList ++ Rows.passChecksSpec.plain.varTypes Tryd.prog) (ds ++ gs)).all (· ≤ reachBytes) = true := hsz0
  have hG : Laid W := laid_of hL
  have hval : ∀ (j : Nat) t v, Tryd.f6.params[j]? = some t → args[j]? = some v → Value.okWide Tryd.prog W .any base t v := hval0
  have hW' := hW
  obtain ⟨p, q, hA0, hV, rfl, _, _⟩ := hW
  have hA : DataW.TrodAll enc Tryd.prog W 0 (fun _ => true) true Tryd.f6.params.toList args.toList ds p := hA0
  rw [Tryd.params6] at hA hval hsz
  obtain ⟨v0, vs0, d0, ds0, p0, q0, hargs, rfl, rfl, h0, r0⟩ := trodAll_cons hA
  obtain ⟨rfl, rfl, rfl⟩ := trodAll_nil r0
  obtain rfl : args = #[v0] := by cases args; simp_all
  obtain ⟨rfl, rfl⟩ := trodVars_none hV
  have k0 := h0
  have lt0 : ∀ x ∈ p0, x.block < W.heap.size := by obtain ⟨m, hm⟩ := k0; exact DataW.trod_lt m _ _ _ hm
  obtain ⟨S0, P0, O0, n0, t0, b0, rfl, w0, u0⟩ := open_try (hval 0 45 v0 rfl rfl) h0
  clear hA0 hval0
  simp only [List.append_nil] at hW'
  refine (walk S0 P0 O0 n0 t0 b0 w0 u0 W hG).mono fun e W' ⟨he, bel⟩ => ?_
  subst he
  exact ⟨_, rfl, _, _, _, [], _, [], hW', trodAll_mk1 (shut_bool Tryd.underlying4 _), (trodAll_cons_mk (Below.trod laidOut (by kernel_rfl) (of_decide_eq_true (by kernel_rfl)) k0 bel lt0) trodAll_mk0), rfl, bel.frame _, fun h => by cases h⟩

theorem proved : Rows.PassChecksSaid :=
  OpenClaim.holds_of_wide 6 Tryd.f6 rfl rfl rfl rfl rfl rfl rfl ⟨rfl, rfl, rfl, rfl, rfl⟩ rfl rfl rfl rfl rfl (by kernel_rfl) Tryd.func6 (by kernel_rfl)
    (of_decide_eq_true (by kernel_rfl)) (by unfold Func.isWrapper; first | (rw [if_pos (by decide +kernel)]; kernel_rfl) | (rw [if_neg (by decide +kernel)]; exact ⟨rfl, rfl⟩))
    (fun os started H enc _ => lifted os started H enc)

/-- THE CARD: the row, its two listed variables tied to the program's text (the ties are given). -/
theorem card : Rows.PassChecksCardSaid :=
  Claim7.holds_tied_plain_at .later [] [.data, .data] true Rows.passChecksCard.stood.harness Rows.passChecksCard.stood.looks
    proved (fun _ h => by cases h) (by kernel_rfl) (fun _ h => by cases h) passChecks_row_tie rfl ⟨rfl, rfl⟩ (by kernel_rfl) rfl
    (fun f fn hf hfn => by
      obtain rfl : f = 6 := Option.some.inj ((show Tryd.prog.funcNamed "castellan/castellanlaw04.PassChecks" = some 6 by kernel_rfl).symm.trans hf) |>.symm
      obtain rfl : fn = Tryd.f6 := (Option.some.inj (Tryd.func6.symm.trans hfn)).symm
      exact ⟨by kernel_rfl, fun j t ht => by
        rw [Tryd.params6] at ht
        have hm : t ∈ [45] := by simpa using Array.mem_of_getElem? ht
        have hall : ([45].all fun u => !Tryd.prog.wantsStandIn u) = true := by kernel_rfl
        exact (show Tryd.prog.wantsStandIn t = false by simpa using List.all_eq_true.1 hall t hm)⟩)
    (by kernel_rfl)

#print axioms proved
end Go.Proofs.YtpdionmecflibaaDoor.passChecks
