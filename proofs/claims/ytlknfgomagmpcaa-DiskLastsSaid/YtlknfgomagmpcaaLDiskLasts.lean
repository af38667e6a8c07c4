/-
  DiskLasts is proved: what was flushed stays, whatever is lost behind, but for sectors that were written since; and each of these is old, new, or torn. No condition beyond the statement's own.
-/
import Derived.Test.YtlknfgomagmpcaaRows
import Derived.Test.YtlknfgomagmpcaaDkL
import Derived.ProofKit
import Derived.OpenShut
import Derived.ShutString
import Derived.SizedLaws
import Derived.SliceStrings
namespace Go.Proofs.Ytlknfgomagmpcaa.diskLasts
open Go.ChangeShapes Go.WideShapes Go.ChangeAt Go.RowKit
open Go.ChangeMaps (open_string shut_string)
set_option linter.unusedVariables false

/-- A slice of texts: it is empty, or leads to cells that hold them. -/
def IsStrs (w : World) (a : Option Addr) (n : Nat) (ss : List ByteArray) : Prop :=
  ss.length = n ∧ (n = 0 ∨ ∃ b off, a = some ⟨b, off, none⟩ ∧ ∀ i (hi : i < ss.length), w.cell? ⟨b, off + i, none⟩ = some (.string ss[i])) ∧ ∀ p ∈ ss, p.size ≤ maxLen
theorem IsStrs.get {w u : World} {a : Option Addr} {n : Nat} {ss : List ByteArray} (h : IsStrs w a n ss) (hb : Below w.heap.size w u) (k : Nat) (hk : k < n) : ∃ b off s, a = some ⟨b, off, none⟩ ∧ ss[k]? = some s ∧ u.cell? ⟨b, off + k, none⟩ = some (.string s) ∧ s.size ≤ maxLen := by
  rcases h.2.1 with h0 | ⟨b, off, rfl, hc⟩
  · omega
  · have hk2 : k < ss.length := by rw [h.1]; exact hk
    refine ⟨b, off, ss[k], rfl, List.getElem?_eq_getElem hk2, ?_, h.2.2 _ (List.getElem_mem hk2)⟩
    rw [hb.cell (p := ⟨b, off + k, none⟩) (World.block_lt_of_cell? w _ (hc k hk2))]
    exact hc k hk2

/-- What is carried along: nothing below has turned, and the loss that came in lies in its block. -/
structure Car (w u : World) (keep : Nat) (torn at' : Int) : Prop where
  bel : Below w.heap.size w u
  row : u.heap[w.heap.size]? = some (.cells #[.int .u64 (keep : Int), .int .i64 torn, .int .i64 at'] 30 (0, 0))
theorem Car.only {w u v : World} {keep : Nat} {torn at' : Int} {S : List Nat} (h : Car w u keep torn at') (ho : OnlyS S u v) (hS : ∀ k ∈ S, w.heap.size < k) : Car w v keep torn at' :=
  ⟨OnlyS.up h.bel ho (Nat.le_refl _) (fun k hk => Nat.le_of_lt (hS k hk)), (ho.block _ (lt_of_block h.row) (fun hm => Nat.lt_irrefl _ (hS _ hm))).trans h.row⟩
theorem Car.below {w u v : World} {keep : Nat} {torn at' : Int} (h : Car w u keep torn at') (hb : Below u.heap.size u v) : Car w v keep torn at' :=
  ⟨h.bel.trans (hb.mono h.bel.size), (hb.block _ (lt_of_block h.row)).trans h.row⟩
theorem Car.drewN {w u : World} {keep : Nat} {torn at' : Int} (m : Nat) (h : Car w u keep torn at') : Car w (u.drewN m) keep torn at' := ⟨⟨h.bel.os, h.bel.tape, h.bel.output, h.bel.size, h.bel.block⟩, h.row⟩
theorem Car.drew {w u : World} {keep : Nat} {torn at' : Int} (h : Car w u keep torn at') : Car w u.drew keep torn at' := ⟨⟨h.bel.os, h.bel.tape, h.bel.output, h.bel.size, h.bel.block⟩, h.row⟩
theorem str_ne {a b : List UInt8} (h : a ≠ b) : ((Mt.str a).toList == (Mt.str b).toList) = false := by
  rw [beq_eq_false_iff_ne]
  intro e
  apply h
  rw [ByteArray.toList_eq, ByteArray.toList_eq] at e
  exact e
/-- The sectors of the first texts. -/
def secs (ss : List ByteArray) (k : Nat) : List (List UInt8) := (ss.take k).map Mt.secOf
theorem secs_length {ss : List ByteArray} {k : Nat} (h : k ≤ ss.length) : (secs ss k).length = k := by unfold secs; rw [List.length_map, List.length_take]; omega
theorem secs_snoc {ss : List ByteArray} {k : Nat} {s : ByteArray} (h : ss[k]? = some s) : secs ss (k + 1) = secs ss k ++ [Mt.secOf s] := by
  unfold secs
  obtain ⟨hk, rfl⟩ := List.getElem?_eq_some_iff.1 h
  rw [List.take_succ_eq_append_getElem hk, List.map_append]; rfl

/-- A disk of twenty sectors, of which the first wait. -/
theorem write_ew {w : World} {B bl bm : Nat} (L X : List (List UInt8)) (h : IsDisk w B bl bm (Mt.ew L X)) (hL : L.length = 20) (hX : X.length < 20) (i : Int) (hi : i = (X.length : Int)) (s : ByteArray) (hs : s.size = 128) :
    Calls Try.prog 21 #[.pointer (some ⟨B, 0, none⟩), .int .i64 i, .string s] w fun e w' => e = .returned (.int .i64 0) ∧ IsDisk w' B bl bm (Mt.ew L (X ++ [s.data.toList])) ∧ OnlyS [B, bl, bm] w w' := by
  subst hi
  have h2 := write_any h (X.length : Int) s
  rw [Mt.ew_write L X hL hX s.data.toList hs] at h2
  exact h2
/-- sector(s[:min(len(s), 100)]). -/
theorem sec_of (s : ByteArray) (m : Nat) (hm : m = min s.size 100) (w : World) : Calls Try.prog 22 #[.string (s.extract 0 m)] w fun e w' => e = .returned (.string (Mt.str (Mt.secOf s))) ∧ Below w.heap.size w w' := by
  subst hm
  exact sector_short (Mt.cut100 s) (Nat.le_trans (Mt.cut100_size s) (by decide)) w

set_option maxHeartbeats 2000000 in
set_option maxRecDepth 100000 in
theorem walk_few (a0 : Option Addr) (n0 c0 : Nat) (ss0 : List ByteArray) (a1 : Option Addr) (n1 c1 : Nat) (ss1 : List ByteArray) (keep : Nat) (torn at' : Int) (h0 : n0 ≤ 20) (h1 : n1 ≤ 20) (hkp : keep < 18446744073709551616)
    (ht : -9223372036854775808 ≤ torn ∧ torn ≤ 9223372036854775807) (ha : -9223372036854775808 ≤ at' ∧ at' ≤ 9223372036854775807) (w : World) (w0 : IsStrs w a0 n0 ss0) (w1 : IsStrs w a1 n1 ss1) :
    Calls Try.prog 5 #[.slice a0 n0 c0, .slice a1 n1 c1, .agg #[.int .u64 (keep : Int), .int .i64 torn, .int .i64 at']] w fun e w' => e = .returned (.bool true) ∧ Below w.heap.size w w' := by
  have t1 : (n0 : Int) ≤ 20 := by omega
  have t2 : (n1 : Int) ≤ 20 := by omega
  have HN := Lib.hid (fun u => new_any 20 u)
  have HW0 := Lib.hid w0
  have HW1 := Lib.hid w1
  have HBX := Lib.hid (fun o => (Below.refl w.heap.size w).alloc (Nat.le_refl _) o)
  clear w0 w1
  go_enter Try.func5, Try.ntmps5
  go_wp2_with fail
  refine (awake5_any _).mono ?_
  rintro e w2 ⟨rfl, hb⟩
  have HB2 := Lib.hid ((HBX.out _).trans (hb.mono (HBX.out _).size))
  have hr2 := hb.block w.heap.size (by simp)
  rw [heap_alloc_new] at hr2
  have HR2 := Lib.hid hr2
  clear hb hr2
  go_wp2_with fail
  refine (HN.out _).mono ?_
  rintro e w3 ⟨rfl, hd, hb⟩
  have hd0 : IsDisk w3 (w2.heap.size + 2) w2.heap.size (w2.heap.size + 1) (Mt.ew (List.replicate 20 Mt.blank) []) := by rw [← Mt.ew0]; exact hd
  have HC3 : Hid (Car w w3 keep torn at') := Lib.hid ⟨HB2.out.trans (hb.mono HB2.out.size), (hb.block _ (lt_of_block HR2.out)).trans HR2.out⟩
  have HGE := Lib.hid (show w.heap.size < w2.heap.size from lt_of_block HR2.out)
  obtain ⟨bm, hbm⟩ : ∃ A, w2.heap.size + 1 = A := ⟨_, rfl⟩
  obtain ⟨B, hB⟩ : ∃ A, w2.heap.size + 2 = A := ⟨_, rfl⟩
  rw [hB, hbm] at hd0
  rw [hB]
  have HX : Hid (∀ k ∈ [B, w2.heap.size, bm], w.heap.size < k) := Lib.hid (fun k hk => by have := HGE.out; simp at hk; omega)
  have HD3 := Lib.hid hd0
  have HL20 : Hid ((List.replicate 20 Mt.blank).length = 20) := Lib.hid List.length_replicate
  clear hd hb HB2 HR2 hd0 HN HGE hB hbm HBX
  generalize w2.heap.size = bl at *
  generalize List.replicate 20 Mt.blank = L0 at *
  have HWR := Lib.hid (fun u L X (h : IsDisk u B bl bm (Mt.ew L X)) => write_ew L X h)
  have HSC := Lib.hid sec_of
  go_wp2_with fail
  go_loopw [33] (fun i wr => ∃ k : Nat, k ≤ n0 ∧ i = .int .i64 k ∧ Hid (IsDisk wr B bl bm (Mt.ew L0 (secs ss0 k))) ∧ Hid (Car w wr keep torn at'))
    (fun i _ => n0 - (intOf i).toNat)
  case atStart => exact ⟨0, by omega, rfl, HD3, HC3⟩
  case round =>
    clear HD3 HC3
    obtain ⟨k, hk, rfl, HDK, HCK⟩ := hrel
    by_cases hlt : k < n0
    · obtain ⟨b, off, s, hae, hs, hcell, hsz⟩ := HW0.out.get HCK.out.bel k hlt
      subst hae
      have hki : (k : Int) < (n0 : Int) := by omega
      have HSN := Lib.hid (secs_snoc hs)
      have HSL := Lib.hid (secs_length (ss := ss0) (k := k) (by rw [HW0.out.1]; exact hk))
      obtain ⟨m, hm⟩ : ∃ m, min s.size 100 = m := ⟨_, rfl⟩
      have hmin : min (s.size : Int) 100 = (m : Int) := by omega
      have hms : (m : Int) ≤ (s.size : Int) := by omega
      have HSE := Lib.hid (fun u => HSC.out s m hm.symm u)
      have HSS := Lib.hid (Mt.secOf_length s)
      clear hs hm hsz
      go_wp2_with fail
      refine (HSE.out _).mono ?_
      rintro e u1 ⟨rfl, hb⟩
      have HD1 := Lib.hid (HDK.out.below hb)
      have HC1 := Lib.hid (HCK.out.below hb)
      clear hb HDK HCK hcell hmin hms HSE
      go_wp2_with fail
      refine (HWR.out _ _ _ HD1.out HL20.out (by rw [HSL.out]; omega) _ (by rw [HSL.out]) _ (by rw [Mt.str_size]; exact HSS.out)).mono ?_
      rintro e u2 ⟨rfl, hd, ho⟩
      have HD2 := Lib.hid hd
      have HC2 := Lib.hid (HC1.out.only ho (fun k hk => HX.out k hk))
      rw [Mt.str_data, ← HSN.out] at HD2
      clear hd ho HD1 HC1
      go_wp2_with fail
      go_roundw
      case rel => exact ⟨k + 1, by omega, by go_num, HD2, HC2⟩
      case measure => simp [intOf]; omega
    · obtain rfl : k = n0 := by omega
      have HF := Lib.hid (flush_any HDK.out)
      have HSL := Lib.hid (secs_length (ss := ss0) (k := k) (by rw [HW0.out.1]; exact Nat.le_refl _))
      rw [Mt.ew_flush L0 _ HL20.out (by rw [HSL.out]; omega)] at HF
      dsimp only at HF
      have HL1 : Hid ((secs ss0 k ++ L0.drop (secs ss0 k).length).length = 20) := Lib.hid (by rw [List.length_append, List.length_drop, HSL.out, HL20.out]; omega)
      generalize secs ss0 k ++ L0.drop (secs ss0 k).length = L1 at HF HL1
      clear HSL HDK
      go_wp2_with fail
      refine (HF.out).mono ?_
      rintro e v1 ⟨rfl, hd, ho⟩
      have HD4 := Lib.hid hd
      have HC4 := Lib.hid (HCK.out.only ho (fun k hk => HX.out k hk))
      have HI := Lib.hid (image_any hd)
      clear hd ho HF HCK
      go_wp2_with fail
      refine (HI.out).mono ?_
      rintro e v2 ⟨rfl, hb⟩
      have HD5 := Lib.hid (HD4.out.below hb)
      have HC5 := Lib.hid (HC4.out.below hb)
      clear hb HD4 HC4 HI
      go_wp2_with fail
      go_loopw [56] (fun i wr => ∃ k : Nat, k ≤ n1 ∧ i = .int .i64 k ∧ Hid (IsDisk wr B bl bm (Mt.ew L1 (secs ss1 k))) ∧ Hid (Car w wr keep torn at'))
        (fun i _ => n1 - (intOf i).toNat)
      case atStart => exact ⟨0, by omega, rfl, HD5, HC5⟩
      case round =>
        clear HD5 HC5
        obtain ⟨k, hk, rfl, HDK, HCK⟩ := hrel
        by_cases hlt : k < n1
        · obtain ⟨b, off, s, hae, hs, hcell, hsz⟩ := HW1.out.get HCK.out.bel k hlt
          subst hae
          have hki : (k : Int) < (n1 : Int) := by omega
          have HSN := Lib.hid (secs_snoc hs)
          have HSL := Lib.hid (secs_length (ss := ss1) (k := k) (by rw [HW1.out.1]; exact hk))
          obtain ⟨m, hm⟩ : ∃ m, min s.size 100 = m := ⟨_, rfl⟩
          have hmin : min (s.size : Int) 100 = (m : Int) := by omega
          have hms : (m : Int) ≤ (s.size : Int) := by omega
          have HSE := Lib.hid (fun u => HSC.out s m hm.symm u)
          have HSS := Lib.hid (Mt.secOf_length s)
          clear hs hm hsz
          go_wp2_with fail
          refine (HSE.out _).mono ?_
          rintro e u1 ⟨rfl, hb⟩
          have HD1 := Lib.hid (HDK.out.below hb)
          have HC1 := Lib.hid (HCK.out.below hb)
          clear hb HDK HCK hcell hmin hms HSE
          go_wp2_with fail
          refine (HWR.out _ _ _ HD1.out HL1.out (by rw [HSL.out]; omega) _ (by rw [HSL.out]) _ (by rw [Mt.str_size]; exact HSS.out)).mono ?_
          rintro e u2 ⟨rfl, hd, ho⟩
          have HD2 := Lib.hid hd
          have HC2 := Lib.hid (HC1.out.only ho (fun k hk => HX.out k hk))
          rw [Mt.str_data, ← HSN.out] at HD2
          clear hd ho HD1 HC1
          go_wp2_with fail
          go_roundw
          case rel => exact ⟨k + 1, by omega, by go_num, HD2, HC2⟩
          case measure => simp [intOf]; omega
        · obtain rfl : k = n1 := by omega
          have HSL1 := Lib.hid (secs_length (ss := ss1) (k := k) (by rw [HW1.out.1]; exact Nat.le_refl _))
          have HCR := Lib.hid (crash_any HDK.out keep torn at' hkp ht ha)
          have HL2 : Hid (((Mt.ew L1 (secs ss1 k)).crash keep torn at').lasts.length = 20) := Lib.hid (by
            show (Mt.loseAll keep torn at' (Mt.pre 20 (secs ss1 k)) L1).length = 20
            unfold Mt.loseAll
            rw [Mt.loseK_length, HL1.out])
          have HLX : Hid (∀ i (hi : i < 20), ∃ a b, L1[i]? = some a ∧ a.length = 128 ∧ ((Mt.ew L1 (secs ss1 k)).crash keep torn at').lasts[i]? = some b ∧ (k ≤ i → b = a) ∧ ∀ s, ss1[i]? = some s → i < k → b = a ∨ b = Mt.secOf s ∨ (i : Int) = torn) := Lib.hid (fun i hi => by
            have h20 := HL1.out
            obtain ⟨b, hb1, hb2, hb3⟩ := Mt.lose_pre keep torn at' (secs ss1 k) L1 (by rw [HSL1.out, h20]; exact h1) i (by omega)
            rw [h20] at hb1
            refine ⟨L1[i], b, List.getElem?_eq_getElem (by omega), HDK.out.ok.lasts i (by show i < L1.length; omega), hb1, fun h => hb2 (by rw [HSL1.out]; exact h), fun s hs hik => ?_⟩
            have h := hb3 (by rw [HSL1.out]; exact hik)
            have e : (secs ss1 k)[i]'(by rw [HSL1.out]; exact hik) = Mt.secOf s := by
              obtain ⟨hl, rfl⟩ := List.getElem?_eq_some_iff.1 hs
              simp [secs]
            rw [e] at h
            exact h)
          have HI1 : Hid (∀ i a, L1[i]? = some a → (Mt.str (Mt.ew L1 []).image).extract (i * 128) ((i + 1) * 128) = Mt.str a) := Lib.hid (fun i a h => by
            obtain ⟨hi, rfl⟩ := List.getElem?_eq_some_iff.1 h
            exact Mt.image_cut L1 HDK.out.ok.lasts i hi)
          have HZ1 : Hid ((Mt.str (Mt.ew L1 []).image).size = 2560) := Lib.hid (by
            rw [Mt.str_size]
            have := Mt.flatten_len L1 20 (by rw [HL1.out]; exact Nat.le_refl _) HDK.out.ok.lasts
            rw [List.take_of_length_le (by rw [HL1.out]; exact Nat.le_refl _)] at this
            exact this)
          generalize Mt.str (Mt.ew L1 []).image = S1 at *
          have hq0 : wr.cell? ⟨w.heap.size, 0, none⟩ = some (.int .u64 (keep : Int)) := by rw [cell_of_row _ _ _ _ _ _ HCK.out.row]; rfl
          have hq1 : wr.cell? ⟨w.heap.size, 1, none⟩ = some (.int .i64 torn) := by rw [cell_of_row _ _ _ _ _ _ HCK.out.row]; rfl
          have hq2 : wr.cell? ⟨w.heap.size, 2, none⟩ = some (.int .i64 at') := by rw [cell_of_row _ _ _ _ _ _ HCK.out.row]; rfl
          generalize (Mt.ew L1 (secs ss1 k)).crash keep torn at' = d2 at *
          clear HDK HSL1
          go_wp2_with fail
          refine (HCR.out).mono ?_
          rintro e x1 ⟨rfl, hd, ho⟩
          have HD6 := Lib.hid hd
          have HC6 := Lib.hid (HCK.out.only ho (fun k hk => HX.out k hk))
          have HI := Lib.hid (image_any hd)
          have HI2 : Hid (∀ i a, d2.lasts[i]? = some a → (Mt.str d2.image).extract (i * 128) ((i + 1) * 128) = Mt.str a) := Lib.hid (fun i a h => by
            obtain ⟨hi, rfl⟩ := List.getElem?_eq_some_iff.1 h
            exact Mt.image_cut d2.lasts HD6.out.ok.lasts i hi)
          have HZ2 : Hid ((Mt.str d2.image).size = 2560) := Lib.hid (by
            rw [Mt.str_size, Mt.Dk.image_length HD6.out.ok, HL2.out])
          clear hd ho HCR HCK hq0 hq1 hq2
          generalize Mt.str d2.image = S2 at *
          go_wp2_with fail
          refine (HI.out).mono ?_
          rintro e x2 ⟨rfl, hb⟩
          have HC7 := Lib.hid (HC6.out.below hb)
          clear hb HD6 HC6 HI
          go_wp2_with fail
          go_loopw [14, 77] (fun tv i wr => ∃ j t : Nat, j ≤ 20 ∧ i = .int .i64 j ∧ tv = .int .i64 t ∧ Hid (t = 0 ∨ (t = 1 ∧ torn < (j : Int))) ∧ Hid (Car w wr keep torn at'))
            (fun _ i _ => 20 - (intOf i).toNat)
          case atStart => exact ⟨0, 0, by omega, rfl, rfl, Lib.hid (.inl rfl), HC7⟩
          case round =>
            clear HC7
            obtain ⟨j, t, hj, rfl, rfl, HTT, HCJ⟩ := hrel
            by_cases hj20 : j < 20
            · obtain ⟨a, b, ha1, ha2, hb1, hb2, hb3⟩ := HLX.out j hj20
              have hA := HI1.out j a ha1
              have hB := HI2.out j b hb1
              have hz1 := HZ1.out
              have hz2 := HZ2.out
              have e1 : IntKind.i64.wrap ((j : Int) * 128) = (j : Int) * 128 := IntWalk.i64_in _ (by omega)
              have e2 : IntKind.i64.wrap ((j : Int) + 1) = (j : Int) + 1 := IntWalk.i64_in _ (by omega)
              have e3 : IntKind.i64.wrap (((j : Int) + 1) * 128) = ((j : Int) + 1) * 128 := IntWalk.i64_in _ (by omega)
              have p1 : (0 : Int) ≤ (j : Int) * 128 := by omega
              have p2 : (0 : Int) ≤ ((j : Int) + 1) * 128 := by omega
              have p3 : (j : Int) * 128 ≤ ((j : Int) + 1) * 128 := by omega
              have p4 : ((j : Int) + 1) * 128 ≤ (S1.size : Int) := by omega
              have p5 : ((j : Int) + 1) * 128 ≤ (S2.size : Int) := by omega
              have n1' : ((j : Int) * 128).toNat = j * 128 := by omega
              have n2' : (((j : Int) + 1) * 128).toNat = (j + 1) * 128 := by omega
              clear ha1 ha2 hb1 hz1 hz2
              go_wp2_with fail
              go_quiet (fail)
              have HC8 := Lib.hid (HCJ.out.drewN nq)
              clear hA hB e1 e2 e3 p1 p2 p3 p4 p5 n1' n2' HCJ
              generalize wr.drewN nq = x3 at HC8 ⊢
              by_cases hjk : j < k
              · obtain ⟨b', off, s, hae, hs, hcell, hsz⟩ := HW1.out.get HC8.out.bel j hjk
                subst hae
                have hji : (j : Int) < (k : Int) := by omega
                have HB3 := Lib.hid (hb3 s hs hjk)
                obtain ⟨m, hm⟩ : ∃ m, min s.size 100 = m := ⟨_, rfl⟩
                have hmin : min (s.size : Int) 100 = (m : Int) := by omega
                have hms : (m : Int) ≤ (s.size : Int) := by omega
                have hm0 : (0 : Int) ≤ (m : Int) := by omega
                have HSE := Lib.hid (fun u => HSC.out s m hm.symm u)
                clear hs hm hsz hb3
                go_wp2_with fail
                refine wp_region_still_tail 11 (by kernel_rfl) (by kernel_rfl) ?_
                simp only [List.take_succ_cons, List.take_zero, List.drop_succ_cons, List.drop_zero]
                repeat still_step
                refine wpStill_nil ?_
                change wpList _ _ _ _ _ x3.drew
                clear hcell hmin hms
                go_wp2_with fail
                refine (HSE.out _).mono ?_
                rintro e x4 ⟨rfl, hb⟩
                have HC9 := Lib.hid (HC8.out.drew.below hb)
                clear hb HC8 HSE
                have ht1 : t ≤ 1 := by rcases HTT.out with h | h <;> omega
                have htl : t = 0 ∨ torn < (j : Int) := by rcases HTT.out with h | h <;> omega
                by_cases hba : b = a
                · subst hba
                  clear HB3
                  go_wp2_with fail
                  go_roundw
                  case rel => exact ⟨j + 1, t, by omega, by go_num, rfl, Lib.hid (by rcases HTT.out with h | h <;> omega), HC9⟩
                  case measure => simp [intOf]; omega
                · have hq1 := str_ne hba
                  by_cases hbc : b = Mt.secOf s
                  · subst hbc
                    clear HB3
                    go_wp2_with fail
                    go_roundw
                    case rel => exact ⟨j + 1, t, by omega, by go_num, rfl, Lib.hid (by rcases HTT.out with h | h <;> omega), HC9⟩
                    case measure => simp [intOf]; omega
                  · have hq2 := str_ne hbc
                    have htj : (j : Int) = torn := by
                      rcases HB3.out with h | h | h
                      · exact absurd h hba
                      · exact absurd h hbc
                      · exact h
                    have ht0 : t = 0 := by omega
                    subst ht0
                    have hp1 : x4.cell? ⟨w.heap.size, 1, none⟩ = some (.int .i64 torn) := by rw [cell_of_row _ _ _ _ _ _ HC9.out.row]; rfl
                    have hjt : ((j : Int) != torn) = false := by simpa using htj
                    have HTJ := Lib.hid htj
                    clear HB3 hba hbc htj htl
                    go_wp2_with fail
                    go_roundw
                    case rel => exact ⟨j + 1, 1, by omega, by go_num, by first | rfl | go_num, Lib.hid (.inr ⟨rfl, by have := HTJ.out; omega⟩), HC9⟩
                    case measure => simp [intOf]; omega
              · have hbe : b = a := hb2 (by omega)
                subst hbe
                have hji : (k : Int) ≤ (j : Int) := by omega
                clear hb2 hb3
                go_wp2_with fail
                go_roundw
                case rel => exact ⟨j + 1, t, by omega, by go_num, rfl, Lib.hid (by rcases HTT.out with h | h <;> omega), HC8⟩
                case measure => simp [intOf]; omega
            · obtain rfl : j = 20 := by omega
              have ht1 : (t : Int) ≤ 1 := by rcases HTT.out with h | h <;> omega
              clear HTT
              go_wp2_with fail
              refine (awake5_any _).mono ?_
              rintro e x9 ⟨rfl, hb⟩
              have HE := Lib.hid (HCJ.out.bel.trans (hb.mono HCJ.out.bel.size))
              clear hb
              go_wp2_with fail
              go_ret
              exact ⟨rfl, HE.out⟩
set_option maxRecDepth 100000 in
theorem walk_many (a0 : Option Addr) (n0 c0 : Nat) (a1 : Option Addr) (n1 c1 : Nat) (K T A : Int) (h : 20 < n0 ∨ 20 < n1) (w : World) :
    Calls Try.prog 5 #[.slice a0 n0 c0, .slice a1 n1 c1, .agg #[.int .u64 K, .int .i64 T, .int .i64 A]] w fun e w' => e = .returned (.bool true) ∧ Below w.heap.size w w' := by
  have HBX := Lib.hid (fun o => (Below.refl w.heap.size w).alloc (Nat.le_refl _) o)
  by_cases h0 : 20 < n0
  · have t1 : (20 : Int) < (n0 : Int) := by omega
    clear h h0
    go_enter Try.func5, Try.ntmps5
    go_wp2_with fail
    refine (awake5_any _).mono ?_
    rintro e w2 ⟨rfl, hb⟩
    have HB2 := Lib.hid ((HBX.out _).trans (hb.mono (HBX.out _).size))
    clear hb
    go_wp2_with fail
    refine (awake5_any _).mono ?_
    rintro e w3 ⟨rfl, hb⟩
    have HB3 := Lib.hid (HB2.out.trans (hb.mono HB2.out.size))
    clear hb
    go_wp2_with fail
    go_ret
    exact ⟨rfl, HB3.out⟩
  · have t1 : (n0 : Int) ≤ 20 := by omega
    have t2 : (20 : Int) < (n1 : Int) := by omega
    clear h h0
    go_enter Try.func5, Try.ntmps5
    go_wp2_with fail
    refine (awake5_any _).mono ?_
    rintro e w2 ⟨rfl, hb⟩
    have HB2 := Lib.hid ((HBX.out _).trans (hb.mono (HBX.out _).size))
    clear hb
    go_wp2_with fail
    refine (awake5_any _).mono ?_
    rintro e w3 ⟨rfl, hb⟩
    have HB3 := Lib.hid (HB2.out.trans (hb.mono HB2.out.size))
    clear hb
    go_wp2_with fail
    go_ret
    exact ⟨rfl, HB3.out⟩

theorem nat_of {n : Int} (h : (Lit.int .u64 n).wf = true) : ∃ m : Nat, n = m ∧ m < 18446744073709551616 := by
  have hb := bounds_u64 h
  exact ⟨n.toNat, by omega, by omega⟩
theorem walk (a0 : Option Addr) (n0 c0 : Nat) (ss0 : List ByteArray) (a1 : Option Addr) (n1 c1 : Nat) (ss1 : List ByteArray) (K T A : Int) (hn0 : n0 ≤ 9223372036854775807) (hn1 : n1 ≤ 9223372036854775807) (wK : (Lit.int .u64 K).wf = true) (wT : (Lit.int .i64 T).wf = true) (wA : (Lit.int .i64 A).wf = true) (w : World) (w0 : IsStrs w a0 n0 ss0) (w1 : IsStrs w a1 n1 ss1) :
    Calls Try.prog 5 #[.slice a0 n0 c0, .slice a1 n1 c1, .agg #[.int .u64 K, .int .i64 T, .int .i64 A]] w fun e w' => e = .returned (.bool true) ∧ Below w.heap.size w w' := by
  by_cases h : 20 < n0 ∨ 20 < n1
  · exact walk_many a0 n0 c0 a1 n1 c1 K T A h w
  · obtain ⟨keep, rfl, hK⟩ := nat_of wK
    have hT := bounds_i64 wT
    have hA := bounds_i64 wA
    exact walk_few a0 n0 c0 ss0 a1 n1 c1 ss1 keep T A (Nat.le_of_not_lt fun e => h (.inl e)) (Nat.le_of_not_lt fun e => h (.inr e)) hK hT hA w w0 w1

/-! The step from the walk to the row. -/
theorem own : ownKnob Try.prog.godebug = none := by kernel_rfl
theorem laidOut : laidOutB Try.prog = true := by kernel_rfl
theorem open_strs_n {H : Type} {enc : TypeId × Value → H} {W : World} {a : Option Addr} {n c : Nat} {d : DataW H} {p : List MemPlace}
    (h : DataW.Trod enc Try.prog W 0 (fun _ => true) true 34 (.slice a n c) d p) : n ≤ maxLen := by
  obtain ⟨fuel, hf⟩ := h
  rcases open_strings Try.underlying34 Try.underlying9 (by kernel_rfl) hf with ⟨hcs, _⟩ | ⟨x, l, cp, ss, hcs, _, hl, hm, _⟩
  · simp [Value.cells] at hcs
    omega
  · simp [Value.cells] at hcs
    omega
/-- A slice of texts that came in, read. -/
theorem open_strs {H : Type} {enc : TypeId × Value → H} {W : World} {a : Option Addr} {n c : Nat} {d : DataW H} {p : List MemPlace}
    (h : DataW.Trod enc Try.prog W 0 (fun _ => true) true 34 (.slice a n c) d p) : ∃ ss, IsStrs W a n ss := by
  obtain ⟨fuel, hf⟩ := h
  rcases open_strings Try.underlying34 Try.underlying9 (by kernel_rfl) hf with ⟨hcs, _⟩ | ⟨x, l, cp, ss, hcs, _, hl, hm, hz, _, hcell, hws⟩
  · simp [Value.cells] at hcs
    obtain ⟨rfl, rfl, rfl⟩ := hcs
    exact ⟨[], rfl, .inl rfl, by simp⟩
  · simp [Value.cells] at hcs
    obtain ⟨rfl, rfl, rfl⟩ := hcs
    have hz' : ss.length = c := by simpa using hz
    have hlen : (ss.take n).length = n := by rw [List.length_take]; omega
    refine ⟨ss.take n, hlen, ?_, fun q hq => hws q (List.mem_of_mem_take hq)⟩
    rcases Nat.eq_zero_or_pos n with rfl | hpos
    · exact .inl rfl
    · right
      obtain ⟨b, off, spot⟩ := x
      have hspot : spot = none := by
        have h0 := hcell 0 (by omega)
        simpa [Addr.add] using World.cell?_spot h0
      subst hspot
      refine ⟨b, off, rfl, fun i hi => ?_⟩
      have hi' : i < n := by omega
      have h1 := hcell i (by omega)
      have e : (⟨b, off, none⟩ : Addr).add i = ⟨b, off + i, none⟩ := by unfold Addr.add; split <;> simp_all
      rw [e] at h1
      rw [h1]
      simp [List.getD, List.getElem?_eq_getElem (show i < ss.length by omega)]
theorem cellsLoss : Try.prog.cellsOf 30 = 3 := by kernel_rfl
theorem cellsU64 : Try.prog.cellsOf 28 = 1 := by kernel_rfl
theorem cellsInt : Try.prog.cellsOf 3 = 1 := by kernel_rfl
set_option maxRecDepth 100000 in
/-- A loss of power that came in: its three fields. -/
theorem open_loss {H : Type} {enc : TypeId × Value → H} {W : World} {r : Reach} {b0 : Nat} {v : Value} {d : DataW H} {p : List MemPlace} (hv : Value.okWide Try.prog W r b0 30 v) (h : DataW.Trod enc Try.prog W 0 (fun _ => true) true 30 v d p) :
    ∃ n a b : Int, v = .agg #[.int .u64 n, .int .i64 a, .int .i64 b] ∧ (Lit.int .u64 n).wf = true ∧ (Lit.int .i64 a).wf = true ∧ (Lit.int .i64 b).wf = true := by
  obtain ⟨cs, rfl, hz⟩ := okWide_struct Try.underlying30 hv
  rw [cellsLoss] at hz
  obtain ⟨l⟩ := cs
  obtain ⟨fuel, hf⟩ := h
  obtain ⟨xs, m, _, _, _, hxl, hg⟩ := DataW.trod_struct Try.underlying30 hf
  match l, hz, xs, hxl with
  | [c0, c1, c2], _, [y0, y1, y2], _ =>
    obtain ⟨n, e0, _, hn⟩ := DataW.trod_int Try.underlying28 (x := y0) (by simpa [cellsU64, Value.cells] using hg 0 _ rfl)
    obtain ⟨a, e1, _, ha⟩ := DataW.trod_int Try.underlying3 (x := y1) (by simpa [cellsInt, Value.cells] using hg 1 _ rfl)
    obtain ⟨b, e2, _, hb⟩ := DataW.trod_int Try.underlying3 (x := y2) (by simpa [cellsInt, Value.cells] using hg 2 _ rfl)
    simp only [List.cons.injEq, and_true] at e0 e1 e2
    subst e0 e1 e2
    exact ⟨n, a, b, rfl, hn, ha, hb⟩

set_option maxRecDepth 100000 in
theorem lifted (os : Os) (started : os.Started) (H : Type) (enc : TypeId × Value → H) :
    ReturnsInHanded {} Try.checked os 5 .any (Rows.diskLastsSpec.pre6 enc Try.prog Try.f5 Rows.diskLastsRow.domain false) (Rows.diskLastsSpec.post enc Try.prog Try.f5 false true false false) := by
  refine returnsInHanded_of_change_sized (C := Try.checked) own started (by kernel_rfl) Try.func5
    (ChangeSpec.witness6 (enc := enc) (C := Try.checked) false ⟨#[], #[.slice none 0 0, .slice none 0 0, .agg #[.int .u64 0, .int .i64 0, .int .i64 0]], []⟩ 8 (by kernel_rfl) (by kernel_rfl) (by kernel_rfl) (by kernel_rfl)) ?_
  intro W base args ds gs before hval0 hW _ hsz0 _
  have hsz : (DataW.weightsEach Try.prog (Try.f5.params.toList ++ Rows.diskLastsSpec.plain.varTypes Try.prog) (ds ++ gs)).all (· ≤ reachBytes) = true := hsz0
  have hval : ∀ (j : Nat) t v, Try.f5.params[j]? = some t → args[j]? = some v → Value.okWide Try.prog W .any base t v := hval0
  have hW' := hW
  obtain ⟨p, q, hA0, hV, rfl, _, _⟩ := hW
  have hA : DataW.TrodAll enc Try.prog W 0 (fun _ => true) true Try.f5.params.toList args.toList ds p := hA0
  rw [Try.params5] at hA hval hsz
  obtain ⟨v0, vs0, d0, ds0, p0, q0, hargs, rfl, rfl, h0, r0⟩ := trodAll_cons hA
  obtain ⟨v1, vs1, d1, ds1, p1, q1, rfl, rfl, rfl, h1, r1⟩ := trodAll_cons r0
  obtain ⟨v2, vs2, d2, ds2, p2, q2, rfl, rfl, rfl, h2, r2⟩ := trodAll_cons r1
  obtain ⟨rfl, rfl, rfl⟩ := trodAll_nil r2
  obtain rfl : args = #[v0, v1, v2] := by cases args; simp_all
  obtain ⟨rfl, rfl⟩ := trodVars_none hV
  obtain ⟨a0, n0, c0, rfl⟩ := okWide_slice Try.underlying34 (hval 0 34 v0 rfl rfl)
  have k0 := h0
  have lt0 : ∀ x ∈ p0, x.block < W.heap.size := by obtain ⟨m, hm⟩ := k0; exact DataW.trod_lt m _ _ _ hm
  obtain ⟨ss0, w0⟩ := open_strs h0
  have hn0 : n0 ≤ 9223372036854775807 := by
    have h := open_strs_n h0
    unfold maxLen at h
    omega
  obtain ⟨a1, n1, c1, rfl⟩ := okWide_slice Try.underlying34 (hval 1 34 v1 rfl rfl)
  have k1 := h1
  have lt1 : ∀ x ∈ p1, x.block < W.heap.size := by obtain ⟨m, hm⟩ := k1; exact DataW.trod_lt m _ _ _ hm
  obtain ⟨ss1, w1⟩ := open_strs h1
  have hn1 : n1 ≤ 9223372036854775807 := by
    have h := open_strs_n h1
    unfold maxLen at h
    omega
  have k2 := h2
  have lt2 : ∀ x ∈ p2, x.block < W.heap.size := by obtain ⟨m, hm⟩ := k2; exact DataW.trod_lt m _ _ _ hm
  obtain ⟨K2, T2, A2, rfl, wK2, wT2, wA2⟩ := open_loss (hval 2 30 v2 rfl rfl) h2
  clear hA0 hval0
  simp only [List.append_nil] at hW'
  refine (walk a0 n0 c0 ss0 a1 n1 c1 ss1 K2 T2 A2 hn0 hn1 wK2 wT2 wA2 W w0 w1).mono fun e W' ⟨he, bel⟩ => ?_
  subst he
  exact ⟨_, rfl, _, _, _, [], _, [], hW', trodAll_mk1 (shut_bool Try.underlying4 _), (trodAll_cons_mk (Below.trod laidOut (by kernel_rfl) (of_decide_eq_true (by kernel_rfl)) k0 bel lt0) (trodAll_cons_mk (Below.trod laidOut (by kernel_rfl) (of_decide_eq_true (by kernel_rfl)) k1 bel lt1) (trodAll_cons_mk (Below.trod laidOut (by kernel_rfl) (of_decide_eq_true (by kernel_rfl)) k2 bel lt2) trodAll_mk0))), rfl, bel.frame _, fun h => by cases h⟩

theorem proved : Rows.DiskLastsSaid :=
  OpenClaim.holds_of_wide 5 Try.f5 rfl rfl rfl rfl rfl rfl rfl ⟨rfl, rfl, rfl, rfl, rfl⟩ rfl rfl rfl rfl rfl (by kernel_rfl) Try.func5 (by kernel_rfl)
    (of_decide_eq_true (by kernel_rfl)) (by unfold Func.isWrapper; first | (rw [if_pos (by decide +kernel)]; kernel_rfl) | (rw [if_neg (by decide +kernel)]; exact ⟨rfl, rfl⟩))
    (fun os started H enc _ => lifted os started H enc)

#print axioms proved
end Go.Proofs.Ytlknfgomagmpcaa.diskLasts
