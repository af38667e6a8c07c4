/-
  ShaStates is proved: behind any writes, and looks between them, the digest of all that was written. No condition beyond the statement's own (more writes or bytes than it looks at are let go); the two listed package variables start as the program's text lays them.
-/
import Derived.Test.YtpdionmecflibaaDoorCards
import Derived.Test.YtpdionmecflibaaDoorTie
import Derived.Test.YtpdionmecflibaaDoorDoor
import Derived.Test.YtpdionmecflibaaDoorAwake3
import Derived.Test.YtpdionmecflibaaDoorRAll
import Derived.Test.YtpdionmecflibaaDoorJoined3
import Derived.SevenTiedAt
import Derived.ProofKit
import Derived.OpenShut
import Derived.ShutString
import Derived.SizedLaws
import Derived.SliceStrings
import Derived.Deep.Grids
namespace Go.Proofs.YtpdionmecflibaaDoor.shaStates
open Go.ChangeShapes Go.WideShapes Go.ChangeAt Go.RowKit
open Go.ChangeMaps (open_string shut_string)
set_option linter.unusedVariables false

/-- A []string that lies in a cell. -/
def IsElem (w : World) (v : Value) (ss : List ByteArray) : Prop := ∃ a n c, v = .slice a n c ∧ IsStrs w a n ss ∧ n ≤ 9223372036854775807
/-- A [][]string that came in. -/
def IsStrss (w : World) (a : Option Addr) (n : Nat) (L : List (List ByteArray)) : Prop :=
  L.length = n ∧ (n = 0 ∨ ∃ b off, a = some ⟨b, off, none⟩ ∧ ∀ i (hi : i < L.length), ∃ v, w.cell? ⟨b, off + i, none⟩ = some v ∧ IsElem w v L[i])
/-- A []bool that came in. -/
def IsBools (w : World) (a : Option Addr) (n : Nat) (L : List Bool) : Prop :=
  L.length = n ∧ (n = 0 ∨ ∃ b off, a = some ⟨b, off, none⟩ ∧ ∀ i (hi : i < L.length), w.cell? ⟨b, off + i, none⟩ = some (.bool L[i]))

theorem ret_bool' {a b : Bool} (h : a = b) : Ending.returned (.bool a) = .returned (.bool b) := by rw [h]
theorem size_list (a : ByteArray) : a.data.toList.length = a.size := rfl

theorem len_st (B : Nat) (M : List UInt8) (w : World) (h : IsSt w B M) (hM : M.length ≤ 1099511627776) : Calls Tryd.prog 13 #[.pointer (some ⟨B, 0, none⟩)] w fun e w' => e = .returned (.int .u64 (M.length : Int)) ∧ w = w' := by
  obtain ⟨R, hR1, hR2⟩ := h
  exact len_any B (Mt.mid M) R M.length w hR1

theorem walk_many (a : Option Addr) (n c : Nat) (a1 : Option Addr) (n1 c1 : Nat) (h : 12 < n) (w : World) (hg : Laid w) :
    Calls Tryd.prog 4 #[.slice a n c, .slice a1 n1 c1] w fun e w' => e = .returned (.bool true) ∧ Below w.heap.size w w' := by
  have hb : (12 : Int) < (n : Int) := by omega
  have HG := Lib.hid hg
  clear h hg
  go_enter Tryd.func4, Tryd.ntmps4
  go_wp2_with fail
  refine (awake3_any _ HG.out).mono ?_
  rintro e w1 ⟨rfl, hb1⟩
  have H1 := Lib.hid hb1
  clear hb1
  go_wp2_with fail
  go_ret
  exact ⟨rfl, H1.out⟩

set_option maxHeartbeats 4000000 in
set_option maxRecDepth 100000 in
theorem walk_few (a : Option Addr) (n c : Nat) (L : List (List ByteArray)) (a1 : Option Addr) (n1 c1 : Nat) (Bs : List Bool) (h12 : n ≤ 12) (hn1 : n1 ≤ 9223372036854775807) (w : World) (w0 : IsStrss w a n L) (w1 : IsBools w a1 n1 Bs) (hg : Laid w) :
    Calls Tryd.prog 4 #[.slice a n c, .slice a1 n1 c1] w fun e w' => e = .returned (.bool true) ∧ Below w.heap.size w w' := by
  have HNEW := Lib.hid (new_any w hg)
  have hb : (n : Int) ≤ 12 := by omega
  have HG := Lib.hid hg
  have HS := Lib.hid w0
  have HBS := Lib.hid w1
  clear w0 w1 hg
  go_enter Tryd.func4, Tryd.ntmps4
  go_wp2_with fail
  refine (HNEW.out).mono ?_
  rintro e w1 ⟨rfl, rfl⟩
  have hb0 := below_alloc w (.cells Mt.st0 60)
  have HB0 := Lib.hid hb0
  have HST0 := Lib.hid (new_st w)
  clear hb0 HNEW
  go_wp2_with fail
  go_loopw [6, 18] (fun s i wr => ∃ (k : Nat) (A : ByteArray), k ≤ n ∧ i = .int .i64 k ∧ s = .string A ∧ A.size ≤ 600 ∧ Hid (IsSt wr w.heap.size A.data.toList) ∧ Hid (Below w.heap.size w wr) ∧ Hid (w.heap.size < wr.heap.size))
    (fun _ i _ => n - (intOf i).toNat)
  case atStart => exact ⟨0, ByteArray.empty, by omega, rfl, rfl, by decide, HST0, HB0, Lib.hid (by simp)⟩
  case round =>
    clear HST0 HB0
    obtain ⟨k, A, hk, rfl, rfl, hA, HST, HB, HLT⟩ := hrel
    by_cases hkn : k < n
    · obtain ⟨b, off, rfl, hcells⟩ : ∃ b off, a = some ⟨b, off, none⟩ ∧ ∀ i (hi : i < L.length), ∃ v, w.cell? ⟨b, off + i, none⟩ = some v ∧ IsElem w v L[i] := by
        rcases HS.out.2 with h | h
        · omega
        · exact h
      obtain ⟨v, hcell, av, nv, cv, rfl, hsv, hnv⟩ := hcells k (by have := HS.out.1; omega)
      generalize L[k]'(by have := HS.out.1; omega) = ss at hsv
      have hblk : b < w.heap.size := World.block_lt_of_cell? w ⟨b, off + k, none⟩ hcell
      have hcell2 : wr.cell? ⟨b, off + k, none⟩ = some (.slice av nv cv) := by
        rw [HB.out.cell (p := ⟨b, off + k, none⟩) hblk]; exact hcell
      have HSV := Lib.hid (hsv.below HB.out (Nat.le_refl _))
      have HAP := Lib.hid (hsv.apart (Nat.le_refl w.heap.size))
      obtain ⟨S, BB, hB, hj⟩ := joined3_of cv 600 HSV.out hnv (by decide)
      have HJ := Lib.hid hj
      have hkn' : (k : Int) < (n : Int) := by omega
      clear hj hsv hcell hcells
      cases BB with
      | false =>
        clear hB
        go_wp2_with fail
        refine (HJ.out).mono ?_
        rintro e w' ⟨rfl, rfl⟩
        go_wp2_with fail
        refine (awake3_any _ (HG.out.below HB.out (Nat.le_refl _))).mono ?_
        rintro e w2 ⟨rfl, hb2⟩
        have H2 := Lib.hid (HB.out.trans (hb2.mono HB.out.size))
        clear hb2
        go_wp2_with fail
        go_ret
        exact ⟨rfl, H2.out⟩
      | true =>
        obtain ⟨hS, hsz⟩ := hB rfl
        have HE : Hid (S.data.toList = Mt.cat ss) := Lib.hid (by rw [hS, Mt.str_data])
        have HSZ : Hid ((Mt.cat ss).length ≤ 600) := Lib.hid (by rw [← HE.out]; exact hsz)
        clear hB hS
        by_cases hbig : 600 < A.size + S.size
        · have hbig' : (600 : Int) < (A.size : Int) + (S.size : Int) := by omega
          go_wp2_with fail
          refine (HJ.out).mono ?_
          rintro e w' ⟨rfl, rfl⟩
          go_wp2_with fail
          refine (awake3_any _ (HG.out.below HB.out (Nat.le_refl _))).mono ?_
          rintro e w2 ⟨rfl, hb2⟩
          have H2 := Lib.hid (HB.out.trans (hb2.mono HB.out.size))
          clear hb2
          go_wp2_with fail
          go_ret
          exact ⟨rfl, H2.out⟩
        · have hbig' : (A.size : Int) + (S.size : Int) ≤ 600 := by omega
          have HWR := Lib.hid (writes_any w.heap.size A.data.toList av nv cv ss wr HST.out (HG.out.toN HB.out (Nat.le_refl _)) HSV.out HAP.out (by have := HSZ.out; rw [size_list]; omega) hnv)
          have hadd := fun wx => run_string_add_sum (w := wx) (P := Tryd.prog) A S (by omega)
          go_wp2_with fail
          refine (HJ.out).mono ?_
          rintro e w' ⟨rfl, rfl⟩
          go_wp2_with fail
          refine (HWR.out).mono ?_
          rintro e w2 ⟨rfl, hst, hon⟩
          have HST2 : Hid (IsSt w2 w.heap.size (A ++ S).data.toList) := Lib.hid (by
            have e : (A ++ S).data.toList = A.data.toList ++ Mt.cat ss := by rw [← HE.out]; simp
            rw [e]; exact hst)
          have HB2 := Lib.hid (HB.out.trans (hon.toBelow (Nat.le_refl _) HB.out.size))
          have HLT2 : Hid (w.heap.size < w2.heap.size) := Lib.hid (Nat.lt_of_lt_of_le HLT.out hon.size)
          have hsz2 : (A ++ S).size ≤ 600 := by rw [ByteArray.size_append]; omega
          clear hst hon HWR HST HB HLT HJ hcell2 HSV HAP HE HSZ hbig hbig'
          generalize A ++ S = A2 at *
          have hsz3 : (A2.size : Int) ≤ 600 := by omega
          have HLN := Lib.hid (len_st w.heap.size A2.data.toList w2 HST2.out (by rw [size_list]; omega))
          rw [size_list] at HLN
          by_cases hkb : k < n1
          · obtain ⟨b1, off1, ha1, hcells1⟩ : ∃ b off, a1 = some ⟨b, off, none⟩ ∧ ∀ i (hi : i < Bs.length), w.cell? ⟨b, off + i, none⟩ = some (.bool Bs[i]) := by
              rcases HBS.out.2 with h | h
              · omega
              · exact h
            subst ha1
            have hcell1 := hcells1 k (by have := HBS.out.1; omega)
            have hblk1 : b1 < w.heap.size := World.block_lt_of_cell? w ⟨b1, off1 + k, none⟩ hcell1
            have hcell2 : w2.cell? ⟨b1, off1 + k, none⟩ = some (.bool (Bs[k]'(by have := HBS.out.1; omega))) := by
              rw [HB2.out.cell (p := ⟨b1, off1 + k, none⟩) hblk1]; exact hcell1
            have hkb' : (k : Int) < (n1 : Int) := by omega
            generalize Bs[k]'(by have := HBS.out.1; omega) = bb at hcell2
            clear hcells1 hcell1
            cases bb with
            | true =>
              go_wp2_with fail
              refine (HLN.out).mono ?_
              rintro e w' ⟨rfl, rfl⟩
              have HSM := Lib.hid (sum_any w.heap.size A2.data.toList w2 HST2.out (HG.out.below HB2.out (Nat.le_refl _)) (by rw [size_list]; omega))
              have HRM := Lib.hid (fun u => rall_any A2 u (by omega))
              generalize Mt.str (Mt.sha A2.data.toList) = D at HSM HRM
              go_wp2_with fail
              refine (HSM.out).mono ?_
              rintro e w3 ⟨rfl, hb3⟩
              have HST3 := Lib.hid (HST2.out.below hb3 HLT2.out)
              have HB3 := Lib.hid (HB2.out.trans (hb3.mono HB2.out.size))
              have HLT3 := Lib.hid (Nat.lt_of_lt_of_le HLT2.out hb3.size)
              clear hb3 hcell2
              go_wp2_with fail
              refine (HRM.out _).mono ?_
              rintro e w4 ⟨rfl, hb4⟩
              have HST4 := Lib.hid (HST3.out.below hb4 HLT3.out)
              have HB4 := Lib.hid (HB3.out.trans (hb4.mono HB3.out.size))
              have HLT4 := Lib.hid (Nat.lt_of_lt_of_le HLT3.out hb4.size)
              clear hb4 HST3 HB3 HLT3
              go_wp2_with fail
              go_roundw
              case rel => exact ⟨k + 1, A2, by omega, by go_num, rfl, hsz2, HST4, HB4, HLT4⟩
              case measure => simp [intOf]; omega
            | false =>
              go_wp2_with fail
              refine (HLN.out).mono ?_
              rintro e w' ⟨rfl, rfl⟩
              go_wp2_with fail
              go_roundw
              case rel => exact ⟨k + 1, A2, by omega, by go_num, rfl, hsz2, HST2, HB2, HLT2⟩
              case measure => simp [intOf]; omega
          · have hkb' : (n1 : Int) ≤ (k : Int) := by omega
            go_wp2_with fail
            refine (HLN.out).mono ?_
            rintro e w' ⟨rfl, rfl⟩
            go_wp2_with fail
            go_roundw
            case rel => exact ⟨k + 1, A2, by omega, by go_num, rfl, hsz2, HST2, HB2, HLT2⟩
            case measure => simp [intOf]; omega
    · obtain rfl : k = n := by omega
      have HSM := Lib.hid (fun u (h : IsSt u w.heap.size A.data.toList) (hl : Laid u) => sum_any w.heap.size A.data.toList u h hl (by rw [size_list]; omega))
      have HRM := Lib.hid (fun u => rall_any A u (by omega))
      generalize Mt.str (Mt.sha A.data.toList) = D at HSM HRM
      go_wp2_with fail
      refine (awake3_any _ (HG.out.below HB.out (Nat.le_refl _))).mono ?_
      rintro e w2 ⟨rfl, hb⟩
      have HST2 := Lib.hid (HST.out.below hb HLT.out)
      have HB2 := Lib.hid (HB.out.trans (hb.mono HB.out.size))
      have HLT2 := Lib.hid (Nat.lt_of_lt_of_le HLT.out hb.size)
      clear hb
      go_wp2_with fail
      refine (HSM.out _ HST2.out (HG.out.below HB2.out (Nat.le_refl _))).mono ?_
      rintro e w3 ⟨rfl, hb⟩
      have HST3 := Lib.hid (HST2.out.below hb HLT2.out)
      have HB3 := Lib.hid (HB2.out.trans (hb.mono HB2.out.size))
      have HLT3 := Lib.hid (Nat.lt_of_lt_of_le HLT2.out hb.size)
      clear hb
      go_wp2_with fail
      refine (HRM.out _).mono ?_
      rintro e w4 ⟨rfl, hb⟩
      have HST4 := Lib.hid (HST3.out.below hb HLT3.out)
      have HB4 := Lib.hid (HB3.out.trans (hb.mono HB3.out.size))
      have HLT4 := Lib.hid (Nat.lt_of_lt_of_le HLT3.out hb.size)
      clear hb
      go_wp2_with fail
      refine (HSM.out _ HST4.out (HG.out.below HB4.out (Nat.le_refl _))).mono ?_
      rintro e w5 ⟨rfl, hb⟩
      have HST5 := Lib.hid (HST4.out.below hb HLT4.out)
      have HB5 := Lib.hid (HB4.out.trans (hb.mono HB4.out.size))
      have HLT5 := Lib.hid (Nat.lt_of_lt_of_le HLT4.out hb.size)
      clear hb
      go_wp2_with fail
      refine (HSM.out _ HST5.out (HG.out.below HB5.out (Nat.le_refl _))).mono ?_
      rintro e w6 ⟨rfl, hb⟩
      have HB6 := Lib.hid (HB5.out.trans (hb.mono HB5.out.size))
      clear hb
      go_wp2_with fail
      go_ret
      exact ⟨rfl, HB6.out⟩

theorem walk (a : Option Addr) (n c : Nat) (L : List (List ByteArray)) (a1 : Option Addr) (n1 c1 : Nat) (Bs : List Bool) (hn : n ≤ 9223372036854775807) (hn1 : n1 ≤ 9223372036854775807) (w : World) (w0 : IsStrss w a n L) (w1 : IsBools w a1 n1 Bs) (hg : Laid w) :
    Calls Tryd.prog 4 #[.slice a n c, .slice a1 n1 c1] w fun e w' => e = .returned (.bool true) ∧ Below w.heap.size w w' := by
  by_cases h : 12 < n
  · exact walk_many a n c a1 n1 c1 h w hg
  · exact walk_few a n c L a1 n1 c1 Bs (by omega) hn1 w w0 w1 hg

/-! The step from the walk to the row. -/
theorem own : ownKnob Tryd.prog.godebug = none := by kernel_rfl
theorem laidOut : laidOutB Tryd.prog = true := by kernel_rfl
theorem open_strs_n {H : Type} {enc : TypeId × Value → H} {W : World} {a : Option Addr} {n c : Nat} {d : DataW H} {p : List MemPlace}
    (h : DataW.Trod enc Tryd.prog W 0 (fun _ => true) true 22 (.slice a n c) d p) : n ≤ maxLen := by
  obtain ⟨fuel, hf⟩ := h
  rcases open_strings Tryd.underlying22 Tryd.underlying9 (by kernel_rfl) hf with ⟨hcs, _⟩ | ⟨x, l, cp, ss, hcs, _, hl, hm, _⟩
  · simp [Value.cells] at hcs
    omega
  · simp [Value.cells] at hcs
    omega
/-- A slice of texts that came in, read. -/
theorem open_strs {H : Type} {enc : TypeId × Value → H} {W : World} {a : Option Addr} {n c : Nat} {d : DataW H} {p : List MemPlace}
    (h : DataW.Trod enc Tryd.prog W 0 (fun _ => true) true 22 (.slice a n c) d p) : ∃ ss, IsStrs W a n ss := by
  obtain ⟨fuel, hf⟩ := h
  rcases open_strings Tryd.underlying22 Tryd.underlying9 (by kernel_rfl) hf with ⟨hcs, _⟩ | ⟨x, l, cp, ss, hcs, _, hl, hm, hz, _, hcell, hws⟩
  · simp [Value.cells] at hcs
    obtain ⟨rfl, rfl, rfl⟩ := hcs
    exact ⟨[], rfl, .inl rfl, by simp⟩
  · simp [Value.cells] at hcs
    obtain ⟨rfl, rfl, rfl⟩ := hcs
    have hz' : ss.length = c := by simpa using hz
    have hlen : (ss.take n).length = n := by rw [List.length_take]; omega
    refine ⟨ss.take n, hlen, ?_, fun q hq => hws q (List.mem_of_mem_take hq)⟩
    rcases Nat.eq_zero_or_pos n with rfl | hpos
    · exact .inl rfl
    · right
      obtain ⟨b, off, spot⟩ := x
      have hspot : spot = none := by
        have h0 := hcell 0 (by omega)
        simpa [Addr.add] using World.cell?_spot h0
      subst hspot
      refine ⟨b, off, rfl, fun i hi => ?_⟩
      have hi' : i < n := by omega
      have h1 := hcell i (by omega)
      have e : (⟨b, off, none⟩ : Addr).add i = ⟨b, off + i, none⟩ := by unfold Addr.add; split <;> simp_all
      rw [e] at h1
      rw [h1]
      simp [List.getD, List.getElem?_eq_getElem (show i < ss.length by omega)]
theorem cellsStrs : Tryd.prog.cellsOf 22 = 1 := by kernel_rfl
theorem cellsBool : Tryd.prog.cellsOf 4 = 1 := by kernel_rfl
theorem addr_none {w : World} {x : Addr} {v : Value} (h : w.cell? x = some v) : ∃ b off, x = ⟨b, off, none⟩ := by
  obtain ⟨b, off, spot⟩ := x
  have hs : spot = none := by simpa using World.cell?_spot h
  exact ⟨b, off, by rw [hs]⟩
theorem add_zero' (x : Addr) : x.add 0 = x := by obtain ⟨b, off, sp⟩ := x; unfold Addr.add; split <;> simp_all
theorem add_none (b off i : Nat) : (⟨b, off, none⟩ : Addr).add i = ⟨b, off + i, none⟩ := by unfold Addr.add; split <;> simp_all
/-- A slice of slices of texts that came in, read. -/
theorem open_strss {H : Type} {enc : TypeId × Value → H} {W : World} {a : Option Addr} {n c : Nat} {d : DataW H} {p : List MemPlace}
    (h : DataW.Trod enc Tryd.prog W 0 (fun _ => true) true 29 (.slice a n c) d p) : ∃ L, IsStrss W a n L ∧ n ≤ 9223372036854775807 := by
  obtain ⟨fuel, hf⟩ := h
  rcases Go.Deep.open_slice Tryd.underlying29 hf with ⟨hcs, _⟩ | ⟨x, l, cp, m, k, D, Pl, hcs, _, hl, hm, hmm, _, hi⟩
  · simp [Value.cells] at hcs
    obtain ⟨rfl, rfl, rfl⟩ := hcs
    exact ⟨[], ⟨rfl, .inl rfl⟩, by decide⟩
  · simp [Value.cells] at hcs
    obtain ⟨rfl, rfl, rfl⟩ := hcs
    have hm' : m = c := by simpa using hmm
    have hbound : n ≤ 9223372036854775807 := by unfold maxLen at hm; omega
    have hex : ∀ i : Nat, ∃ ss : List ByteArray, i < n → ∃ v, W.cell? (x.add i) = some v ∧ IsElem W v ss := by
      intro i
      by_cases hin : i < n
      · obtain ⟨cs', hc, ht⟩ := hi i (by omega)
        rw [cellsStrs, Nat.mul_one] at hc
        obtain ⟨_, hlen, hat⟩ := World.cells?_some hc
        match cs', hlen with
        | [v], _ =>
          have hv := hat 0 (by decide)
          rw [add_zero'] at hv
          have hv2 : W.cell? (x.add i) = some v := hv
          have hform : ∃ a n c, v = .slice a n c := by
            rcases open_strings Tryd.underlying22 Tryd.underlying9 (by kernel_rfl) ht with ⟨e, _⟩ | ⟨y, l2, c2, _, e, _⟩
            · exact ⟨none, 0, 0, by simpa using e⟩
            · exact ⟨some y, l2, c2, by simpa using e⟩
          obtain ⟨a', n', c', rfl⟩ := hform
          have htr : DataW.Trod enc Tryd.prog W 0 (fun _ => true) true 22 (.slice a' n' c') (D i) (Pl i) := ⟨_, ht⟩
          obtain ⟨ss, hss⟩ := open_strs htr
          have hn' := open_strs_n htr
          exact ⟨ss, fun _ => ⟨_, hv2, a', n', c', rfl, hss, by unfold maxLen at hn'; omega⟩⟩
      · exact ⟨[], fun h => absurd h hin⟩
    obtain ⟨f, hfm⟩ := Classical.axiomOfChoice hex
    refine ⟨(List.range n).map f, ⟨by simp, ?_⟩, hbound⟩
    rcases Nat.eq_zero_or_pos n with h0 | h0
    · exact .inl h0
    · obtain ⟨v, hv, _⟩ := hfm 0 h0
      rw [add_zero'] at hv
      obtain ⟨b, off, rfl⟩ := addr_none hv
      refine .inr ⟨b, off, rfl, fun i hi => ?_⟩
      have hin : i < n := by simpa using hi
      obtain ⟨v, hv, hel⟩ := hfm i hin
      rw [add_none] at hv
      exact ⟨v, hv, by simpa using hel⟩
/-- A slice of truths that came in, read. -/
theorem open_bools {H : Type} {enc : TypeId × Value → H} {W : World} {a : Option Addr} {n c : Nat} {d : DataW H} {p : List MemPlace}
    (h : DataW.Trod enc Tryd.prog W 0 (fun _ => true) true 30 (.slice a n c) d p) : ∃ L, IsBools W a n L ∧ n ≤ 9223372036854775807 := by
  obtain ⟨fuel, hf⟩ := h
  rcases Go.Deep.open_bools Tryd.underlying30 Tryd.underlying4 cellsBool hf with ⟨hcs, _⟩ | ⟨x, l, cp, B, hcs, _, hl, hm, _, hc⟩
  · simp [Value.cells] at hcs
    obtain ⟨rfl, rfl, rfl⟩ := hcs
    exact ⟨[], ⟨rfl, .inl rfl⟩, by decide⟩
  · simp [Value.cells] at hcs
    obtain ⟨rfl, rfl, rfl⟩ := hcs
    have hbound : n ≤ 9223372036854775807 := by unfold maxLen at hm; omega
    refine ⟨(List.range n).map B, ⟨by simp, ?_⟩, hbound⟩
    rcases Nat.eq_zero_or_pos n with h0 | h0
    · exact .inl h0
    · have hv := hc 0 (by omega)
      rw [add_zero'] at hv
      obtain ⟨b, off, rfl⟩ := addr_none hv
      refine .inr ⟨b, off, rfl, fun i hi => ?_⟩
      have hin : i < n := by simpa using hi
      have h1 := hc i (by omega)
      rw [add_none] at h1
      rw [h1]; simp

set_option maxRecDepth 100000 in
theorem lifted (os : Os) (started : os.Started) (H : Type) (enc : TypeId × Value → H) :
    ReturnsInHanded {} Tryd.checked os 4 .any (fun w args => (Rows.shaStatesSpec.pre enc Tryd.prog Tryd.f4 [] false w args ∧ laidMetH Tryd.prog laid2 w) ∧ sizedMet enc Tryd.prog Tryd.f4 (OpenSpec.ofChange Rows.shaStatesSpec) false w args)
      (Rows.shaStatesSpec.post enc Tryd.prog Tryd.f4 false true false false) := by
  refine returnsInHanded_of_change_and (C := Tryd.checked) (X := fun w _ => laidMetH Tryd.prog laid2 w) (fun _ _ _ hh h => h.of_heap hh) own started (by kernel_rfl) Tryd.func4
    (ChangeSpec.witness_shaped (enc := enc) (C := Tryd.checked) (os := os) (X := fun w _ => laidMetH Tryd.prog laid2 w) false (World.doorLaid Tryd.prog 400 os) #[.slice none 0 0, .slice none 0 0] 8 rfl (World.shaped_of_RefB (by kernel_rfl) (by kernel_rfl)) (by kernel_rfl) (by kernel_rfl) (by kernel_rfl) (door_met os _)) ?_
  intro W base args ds gs before hval0 hW _ hsz0 hL _
  have hsz : (DataW.weightsEach Tryd.prog (Tryd.f4.params.toList ++ Rows.shaStatesSpec.plain.varTypes Tryd.prog) (ds ++ gs)).all (· ≤ reachBytes) = true := hsz0
  have hG : Laid W := laid_of hL
  have hval : ∀ (j : Nat) t v, Tryd.f4.params[j]? = some t → args[j]? = some v → Value.okWide Tryd.prog W .any base t v := hval0
  have hW' := hW
  obtain ⟨p, q, hA0, hV, rfl, _, _⟩ := hW
  have hA : DataW.TrodAll enc Tryd.prog W 0 (fun _ => true) true Tryd.f4.params.toList args.toList ds p := hA0
  rw [Tryd.params4] at hA hval hsz
  obtain ⟨v0, vs0, d0, ds0, p0, q0, hargs, rfl, rfl, h0, r0⟩ := trodAll_cons hA
  obtain ⟨v1, vs1, d1, ds1, p1, q1, rfl, rfl, rfl, h1, r1⟩ := trodAll_cons r0
  obtain ⟨rfl, rfl, rfl⟩ := trodAll_nil r1
  obtain rfl : args = #[v0, v1] := by cases args; simp_all
  obtain ⟨rfl, rfl⟩ := trodVars_none hV
  obtain ⟨a0, n0, c0, rfl⟩ := okWide_slice Tryd.underlying29 (hval 0 29 v0 rfl rfl)
  have k0 := h0
  have lt0 : ∀ x ∈ p0, x.block < W.heap.size := by obtain ⟨m, hm⟩ := k0; exact DataW.trod_lt m _ _ _ hm
  obtain ⟨ss0, w0, hn0⟩ := open_strss h0
  obtain ⟨a1, n1, c1, rfl⟩ := okWide_slice Tryd.underlying30 (hval 1 30 v1 rfl rfl)
  have k1 := h1
  have lt1 : ∀ x ∈ p1, x.block < W.heap.size := by obtain ⟨m, hm⟩ := k1; exact DataW.trod_lt m _ _ _ hm
  obtain ⟨ss1, w1, hn1⟩ := open_bools h1
  clear hA0 hval0
  simp only [List.append_nil] at hW'
  refine (walk a0 n0 c0 ss0 a1 n1 c1 ss1 hn0 hn1 W w0 w1 hG).mono fun e W' ⟨he, bel⟩ => ?_
  subst he
  exact ⟨_, rfl, _, _, _, [], _, [], hW', trodAll_mk1 (shut_bool Tryd.underlying4 _), (trodAll_cons_mk (Below.trod laidOut (by kernel_rfl) (of_decide_eq_true (by kernel_rfl)) k0 bel lt0) (trodAll_cons_mk (Below.trod laidOut (by kernel_rfl) (of_decide_eq_true (by kernel_rfl)) k1 bel lt1) trodAll_mk0)), rfl, bel.frame _, fun h => by cases h⟩

theorem proved : Rows.ShaStatesSaid :=
  OpenClaim.holds_of_wide 4 Tryd.f4 rfl rfl rfl rfl rfl rfl rfl ⟨rfl, rfl, rfl, rfl, rfl⟩ rfl rfl rfl rfl rfl (by kernel_rfl) Tryd.func4 (by kernel_rfl)
    (of_decide_eq_true (by kernel_rfl)) (by unfold Func.isWrapper; first | (rw [if_pos (by decide +kernel)]; kernel_rfl) | (rw [if_neg (by decide +kernel)]; exact ⟨rfl, rfl⟩))
    (fun os started H enc _ => lifted os started H enc)

/-- THE CARD: the row, its two listed variables tied to the program's text (the ties are given). -/
theorem card : Rows.ShaStatesCardSaid :=
  Claim7.holds_tied_plain_at .later [] [.data, .data] true Rows.shaStatesCard.stood.harness Rows.shaStatesCard.stood.looks
    proved (fun _ h => by cases h) (by kernel_rfl) (fun _ h => by cases h) shaStates_row_tie rfl ⟨rfl, rfl⟩ (by kernel_rfl) rfl
    (fun f fn hf hfn => by
      obtain rfl : f = 4 := Option.some.inj ((show Tryd.prog.funcNamed "castellan/castellanlaw03.ShaStates" = some 4 by kernel_rfl).symm.trans hf) |>.symm
      obtain rfl : fn = Tryd.f4 := (Option.some.inj (Tryd.func4.symm.trans hfn)).symm
      exact ⟨by kernel_rfl, fun j t ht => by
        rw [Tryd.params4] at ht
        have hm : t ∈ [29, 30] := by simpa using Array.mem_of_getElem? ht
        have hall : ([29, 30].all fun u => !Tryd.prog.wantsStandIn u) = true := by kernel_rfl
        exact (show Tryd.prog.wantsStandIn t = false by simpa using List.all_eq_true.1 hall t hm)⟩)
    (by kernel_rfl)

#print axioms proved
end Go.Proofs.YtpdionmecflibaaDoor.shaStates
