/-
  FeedParts is proved: however bytes are cut into parts, and asked for between, the same messages come, and the same error. No condition.
-/
import Derived.Test.YtfnggifadhploaaRows
import Derived.Test.YtfnggifadhploaaFdP
import Derived.ProofKit
import Derived.OpenShut
import Derived.ShutString
import Derived.SizedLaws
namespace Go.Proofs.Ytfnggifadhploaa.feedParts
open Go.ChangeShapes Go.WideShapes Go.ChangeAt Go.RowKit
open Go.ChangeMaps (open_string shut_string)
set_option linter.unusedVariables false

/-- Numbers in a slice that came in. -/
def IsInts0 (w : World) (a : Option Addr) (n : Nat) (zs : List Int) : Prop :=
  zs.length = n ∧ (n = 0 ∨ ∃ b off, a = some ⟨b, off, none⟩ ∧ ∀ i (hi : i < zs.length), w.cell? ⟨b, off + i, none⟩ = some (.int .i64 zs[i])) ∧ ∀ z ∈ zs, (Lit.int .i64 z).wf = true

set_option maxRecDepth 100000 in
theorem walk_far (s : ByteArray) (a : Option Addr) (n c : Nat) (hs : s.size ≤ 140737488351232) (hn : n ≤ 9223372036854775807) (w : World) (hfar : 20000 < s.size ∨ 50 < n) :
    Calls Try.prog 9 #[.string s, .slice a n c] w fun e w' => e = .returned (.bool true) ∧ Below w.heap.size w w' := by
  by_cases h1 : 20000 < s.size
  · have h2 : decide (20000 < s.size) = true := by simpa using h1
    clear hfar
    go_enter Try.func9, Try.ntmps9
    go_wp2_with fail
    refine (awake8_any _).mono ?_
    rintro e w1 ⟨rfl, hb⟩
    have HB := Lib.hid hb
    clear hb
    go_wp2_with fail
    go_ret
    exact ⟨rfl, HB.out⟩
  · have h2 : decide (20000 < s.size) = false := by simpa using h1
    have h3 : 50 < n := by omega
    have h4 : decide (50 < n) = true := by simpa using h3
    clear hfar
    go_enter Try.func9, Try.ntmps9
    go_wp2_with fail
    refine (awake8_any _).mono ?_
    rintro e w1 ⟨rfl, hb⟩
    have HB := Lib.hid hb
    clear hb
    go_wp2_with fail
    go_ret
    exact ⟨rfl, HB.out⟩

set_option maxRecDepth 100000 in
set_option maxHeartbeats 1000000 in
theorem walk_near (s : ByteArray) (a : Option Addr) (n c : Nat) (zs : List Int) (hs : s.size ≤ 20000) (hn : n ≤ 50) (w : World) (hz : IsInts0 w a n zs) :
    Calls Try.prog 9 #[.string s, .slice a n c] w fun e w' => e = .returned (.bool true) ∧ Below w.heap.size w w' := by
  have h2 : decide (20000 < s.size) = false := by simp; omega
  have h4 : decide (50 < n) = false := by simp; omega
  have HZ := Lib.hid hz
  clear hz
  go_enter Try.func9, Try.ntmps9
  go_wp2_with fail
  refine (bnew_any _).mono ?_
  rintro x w1 ⟨rfl, hnil1, hb1⟩
  have HN1 := Lib.hid hnil1
  have HB1 := Lib.hid hb1
  clear hnil1 hb1
  go_wp2_with fail
  refine (bnew_any _).mono ?_
  rintro x w2 ⟨rfl, hnil2, hb2⟩
  have hz1 : w.heap.size < w1.heap.size := (HN1.out (w.heap.size + 1) (by omega)).lt
  have hz2 : w1.heap.size < w2.heap.size := (hnil2 (w1.heap.size + 1) (by omega)).lt
  have hst1 : St w.heap.size w2 w2 [] 0 (.slice none 0 0) [] := by
    have hb : IsBuf w2 w.heap.size (w2.heap.size + 1) [] 0 := (HN1.out _ (by omega)).below hb2
    exact ⟨fun _ => rfl, by simp, w2.heap.size + 1, w2.heap.size + 2, hb, IsRw.nil _ _ _ _, by omega, by omega, by omega, by omega, OnlyS.refl _ _⟩
  have hnil : IsBuf w2 w1.heap.size (w2.heap.size + 1) [] 0 := hnil2 _ (by omega)
  have hrow2 : w2.heap[w1.heap.size]? = some (.cells #[.slice none 0 0, .int .i64 ((0 : Nat) : Int)] 84 (0, 0)) := by
    obtain ⟨v, hv, hby, _⟩ := hnil
    rcases hby with ⟨_, rfl⟩ | ⟨_, _, _, _, b2, _⟩
    · exact hv
    · have := lt_of_block b2; omega
  have hA1 := hst1.add [s] (by simp) (by simp [Mt.cats]; exact Nat.le_trans hs (by omega))
  have hHA1 : Hid (Calls Try.prog 30 #[.pointer (some ⟨w.heap.size, 0, none⟩), .slice (some ⟨w2.heap.size, 0, none⟩) 1 1] (w2.alloc (.cells #[.string s] 9)) fun x w' => x = .returned (.tuple #[]) ∧ St w.heap.size w2 w' s.data.toList 0 (.slice none 0 0) []) := by
    have e : (if (0 : Nat) = 0 then [] ++ Mt.cats [s] else []) = s.data.toList := by simp [Mt.cats]
    rw [e] at hA1
    exact hA1
  have HR2 := Lib.hid hrow2
  have HW2 := Lib.hid (HB1.out.trans (hb2.mono (by omega)))
  generalize hB1 : w.heap.size = B1 at *
  generalize hB2 : w1.heap.size = B2 at *
  have HBB := Lib.hid hB1
  have HZ1 := Lib.hid hz1
  have HZ2 := Lib.hid hz2
  clear hst1 hnil hrow2 hA1 hnil2 hb2 hB1 hB2 HN1 HB1 hz1 hz2
  go_wp2_with fail
  refine (hHA1.out).mono ?_
  rintro x w3 ⟨rfl, hst⟩
  obtain ⟨ms, r, e1, hdr⟩ : ∃ ms r e1, Mt.drn s.data.toList = (ms, r, e1) := ⟨_, _, _, rfl⟩
  have hA2 := hst.all
  have hbase : w2.heap.size ≤ w3.heap.size := hst.only.size
  have e0 : Mt.drnE 0 s.data.toList = (ms, r, e1) := by rw [← hdr]; rfl
  rw [e0] at hA2
  have HA2 := Lib.hid hA2
  have HDR := Lib.hid hdr
  clear hA2 hHA1 hst e0 hdr
  go_wp2_with fail
  refine (HA2.out).mono ?_
  rintro x w4 ⟨vL, gL, rfl, hst, hL, hgL⟩
  have ho24 := hst.only
  have hr2 : w4.heap[B2]? = some (.cells #[.slice none 0 0, .int .i64 ((0 : Nat) : Int)] 84 (0, 0)) := (ho24.block B2 HZ2.out (by have := HZ1.out; simp; omega)).trans HR2.out
  have hst2 : St B2 w4 w4 [] 0 (.slice none 0 0) [] := by
    have := ho24.size
    have := HZ2.out
    exact ⟨fun _ => rfl, by simp, w4.heap.size + 1, w4.heap.size + 2, ⟨_, hr2, .inl ⟨rfl, rfl⟩, by omega⟩, IsRw.nil _ _ _ _, by omega, by omega, by omega, by omega, OnlyS.refl _ _⟩
  obtain ⟨_, hrl, g1, _, hone, _, hg1, _⟩ := hst
  have HONE := Lib.hid hone
  have HG1 : Hid (w2.heap.size ≤ g1 ∧ w2.heap.size ≤ gL) := ⟨hg1, by omega⟩
  obtain ⟨aL, cL, rfl⟩ := hL.form
  have HL := Lib.hid hL
  have HW4 : Hid (Below B1 w w4) := by
    have h24 : Below B1 w2 w4 := ho24.toBelow (by simp) (by have := HZ1.out; have := HZ2.out; omega)
    exact HW2.out.trans h24
  have HST := Lib.hid hst2
  clear ho24 hr2 hst2 hone hg1 hL hgL hbase HA2 HW2 HR2 hrl
  go_wp2_with fail
  go_loopw [9, 11, 42] (fun v rest i wr => ∃ (k : Nat) (rs : List UInt8), k ≤ n ∧ i = .int .i64 k ∧ rest = .string (Mt.str rs) ∧ Hid (∃ l e ml, Mt.drn s.data.toList = (ml ++ (Mt.drnE e (l ++ rs)).1, (Mt.drnE e (l ++ rs)).2) ∧ l.length + rs.length ≤ 20000 ∧ ml.length ≤ 20000 * k ∧ St B2 w4 wr l e v ml)) (fun _ _ i _ => n - (intOf i).toNat)
  case atStart =>
    refine ⟨0, s.data.toList, Nat.zero_le _, rfl, rfl, [], 0, [], ?_, ?_, by simp, HST.out⟩
    · rfl
    · simpa using hs
  case round =>
    obtain ⟨k, rs, hk, rfl, rfl, HR⟩ := hrel
    obtain ⟨l, e, ml, hdr, hlr, hml, hst⟩ := HR.out
    obtain ⟨va, vc, rfl⟩ := hst.form
    have hB1lt : B1 < B2 := HZ1.out
    have HDL := Lib.hid hdr
    have HLR := Lib.hid hlr
    have HML := Lib.hid hml
    have HS2 := Lib.hid hst
    have hrs : (Mt.str rs).size = rs.length := Mt.str_size rs
    clear hdr hml hst HR
    by_cases hlt : k < n
    · have hcell : ∃ b off, a = some ⟨b, off, none⟩ ∧ ∃ z : Int, wr.cell? ⟨b, off + k, none⟩ = some (.int .i64 z) ∧ -9223372036854775808 ≤ z ∧ z ≤ 9223372036854775807 := by
        obtain ⟨hzl, hz0, hwf⟩ := HZ.out
        rcases hz0 with hz0 | ⟨b, off, ha, hc⟩
        · omega
        · refine ⟨b, off, ha, zs[k], ?_, ?_⟩
          · have h1 := hc k (by omega)
            have hblt := World.block_lt_of_cell? w _ h1
            have hB1 : w.heap.size = B1 := HBB.out
            rw [HS2.out.only.cell (p := ⟨b, off + k, none⟩) (by have := HW4.out.size; simp at hblt ⊢; omega) (by simp at hblt ⊢; omega), HW4.out.cell (p := ⟨b, off + k, none⟩) (by simp at hblt ⊢; omega)]
            exact h1
          · exact bounds_i64 (hwf zs[k] (List.getElem_mem _))
      obtain ⟨b, off, rfl, z, hcz, hz1, hz2⟩ := hcell
      obtain ⟨K, hKs, hK⟩ : ∃ K : Nat, K ≤ rs.length ∧ wrap64 ((IntKind.u64.wrap z).tmod ((rs.length : Int) + 1)) = (K : Int) := by
        have h0 := wrap_u64_nonneg z
        obtain ⟨u, hu⟩ := Int.eq_ofNat_of_zero_le h0
        rw [hu, Int.tmod_eq_emod_of_nonneg (by omega)]
        have e : ((rs.length : Int) + 1) = ((rs.length + 1 : Nat) : Int) := by omega
        rw [e]
        have hlt : u % (rs.length + 1) < rs.length + 1 := Nat.mod_lt _ (by omega)
        refine ⟨u % (rs.length + 1), by omega, ?_⟩
        rw [← Int.natCast_emod]
        have := HLR.out
        simp only [wrap64]; omega
      have hx1 := Mt.str_take rs K
      have hx2 := Mt.str_drop rs K
      have hKi : (K : Int) ≤ rs.length := by omega
      obtain ⟨l2, hl2⟩ : ∃ l2, (if e = 0 then l ++ rs.take K else l) = l2 := ⟨_, rfl⟩
      have hA := HS2.out.add [Mt.str (rs.take K), ByteArray.empty] (by simp) (by have := HLR.out; simp [Mt.cats, Mt.str_data]; omega)
      have hcats : Mt.cats [Mt.str (rs.take K), ByteArray.empty] = rs.take K := by simp [Mt.cats, Mt.str_data]
      rw [hcats, hl2] at hA
      have HA : Hid (Calls Try.prog 30 #[.pointer (some ⟨B2, 0, none⟩), .slice (some ⟨wr.heap.size, 0, none⟩) 2 2] (wr.alloc (.cells #[.string (Mt.str (rs.take K)), .string ⟨#[]⟩] 9)) fun x w' => x = .returned (.tuple #[]) ∧ St B2 w4 w' l2 e (.slice va ml.length vc) ml) := hA
      have HE : Hid (Mt.drnE e (l ++ rs) = Mt.drnE e (l2 ++ rs.drop K) ∧ l2.length + (rs.drop K).length ≤ 20000) := by
        have := HLR.out
        by_cases he : e = 0
        · rw [if_pos he] at hl2
          subst hl2
          refine ⟨by rw [List.append_assoc, List.take_append_drop], ?_⟩
          simp; omega
        · rw [if_neg he] at hl2
          subst hl2
          refine ⟨by simp [Mt.drnE, he], ?_⟩
          simp; omega
      clear hA hcats hl2
      go_wp2_with fail
      refine (HA.out).mono ?_
      rintro x w5 ⟨rfl, hst5⟩
      have HS5 := Lib.hid hst5
      clear hst5 HA
      by_cases hp : z.tmod 2 = 0
      · have hp1 : (z.tmod 2 == 0) = true := by simp [hp]
        have hAll := HS5.out.all
        obtain ⟨m2, r2, e2, hd2⟩ : ∃ m2 r2 e2, Mt.drnE e l2 = (m2, r2, e2) := ⟨_, _, _, rfl⟩
        rw [hd2] at hAll
        have HALL := Lib.hid hAll
        have hlen2 : m2.length ≤ 20000 ∧ r2.length ≤ l2.length := by
          have h1 := Mt.drn_length l2.length l2 (Nat.le_refl _)
          have h2 := HE.out.2
          by_cases he : e = 0
          · subst he
            have : Mt.drn l2 = (m2, r2, e2) := by rw [← hd2]; simp [Mt.drnE]
            rw [this] at h1
            simp only at h1
            omega
          · simp [Mt.drnE, he] at hd2
            obtain ⟨rfl, rfl, _⟩ := hd2
            simp
        have HE2 : Hid (Mt.drnE e (l2 ++ rs.drop K) = (m2 ++ (Mt.drnE e2 (r2 ++ rs.drop K)).1, (Mt.drnE e2 (r2 ++ rs.drop K)).2)) := by
          have := Mt.drnE_append e l2 (rs.drop K)
          rw [hd2] at this
          exact this
        have HLEN := Lib.hid hlen2
        clear hAll hlen2 hd2 hp
        go_wp2_with fail
        refine (HALL.out).mono ?_
        rintro x w6 ⟨v2, g2, rfl, hst6, hr6, _⟩
        obtain ⟨v7, w7, hrun, hst7⟩ := hst6.app hr6 (by have := HML.out; have := HLEN.out; omega)
        have HS7 := Lib.hid hst7
        obtain ⟨a2, c2, rfl⟩ := hr6.form
        clear hst6 hr6 hst7 HALL HS5
        go_wp2_with (at_builtin; refine wpList_append_run rfl _ _ 60 60 rfl _ _ rfl rfl hrun ?_)
        go_roundw
        case rel =>
          refine ⟨k + 1, rs.drop K, by omega, by go_num, rfl, r2, e2, ml ++ m2, ?_, ?_, ?_, HS7.out⟩
          · rw [HDL.out, HE.out.1, HE2.out]; simp
          · have := HE.out.2; have := HLEN.out; omega
          · have := HML.out; have := HLEN.out; simp; omega
        case measure => simp [intOf]; omega
      · have hp1 : (z.tmod 2 == 0) = false := by simp [hp]
        go_wp2_with fail
        go_roundw
        case rel =>
          refine ⟨k + 1, rs.drop K, by omega, by go_num, rfl, l2, e, ml, ?_, ?_, ?_, HS5.out⟩
          · rw [HDL.out, HE.out.1]
          · exact HE.out.2
          · have := HML.out; omega
        case measure => simp [intOf]; omega
    · obtain rfl : k = n := by omega
      obtain ⟨l2, hl2⟩ : ∃ l2, (if e = 0 then l ++ rs else l) = l2 := ⟨_, rfl⟩
      have hA := HS2.out.add [Mt.str rs] (by simp) (by have := HLR.out; simp [Mt.cats, Mt.str_data]; omega)
      have hcats : Mt.cats [Mt.str rs] = rs := by simp [Mt.cats, Mt.str_data]
      rw [hcats, hl2] at hA
      have HA : Hid (Calls Try.prog 30 #[.pointer (some ⟨B2, 0, none⟩), .slice (some ⟨wr.heap.size, 0, none⟩) 1 1] (wr.alloc (.cells #[.string (Mt.str rs)] 9)) fun x w' => x = .returned (.tuple #[]) ∧ St B2 w4 w' l2 e (.slice va ml.length vc) ml) := hA
      obtain ⟨m2, r2, e2, hd2⟩ : ∃ m2 r2 e2, Mt.drnE e l2 = (m2, r2, e2) := ⟨_, _, _, rfl⟩
      have HE : Hid (Mt.drnE e (l ++ rs) = (m2, r2, e2) ∧ l2.length ≤ 20000) := by
        have := HLR.out
        by_cases he : e = 0
        · rw [if_pos he] at hl2
          rw [hl2]
          exact ⟨hd2, by rw [← hl2]; simp; omega⟩
        · rw [if_neg he] at hl2
          refine ⟨?_, by rw [← hl2]; omega⟩
          rw [← hd2]; simp [Mt.drnE, he]
      have hlen2 : m2.length ≤ 20000 := by
        have h1 := Mt.drn_length l2.length l2 (Nat.le_refl _)
        have h2 := HE.out.2
        by_cases he : e = 0
        · subst he
          have : Mt.drn l2 = (m2, r2, e2) := by rw [← hd2]; simp [Mt.drnE]
          rw [this] at h1
          simp only at h1
          omega
        · simp [Mt.drnE, he] at hd2
          obtain ⟨rfl, rfl, _⟩ := hd2
          simp
      have hall : ms = ml ++ m2 ∧ r = r2 ∧ e1 = e2 := by
        have h1 := HDR.out
        have h2 := HDL.out
        rw [HE.out.1, h1] at h2
        simp only [Prod.mk.injEq] at h2
        exact ⟨h2.1, h2.2.1, h2.2.2⟩
      obtain ⟨hms, rfl, rfl⟩ := hall
      have HMS := Lib.hid hms
      have HLEN := Lib.hid hlen2
      have HD2 := Lib.hid hd2
      clear hA hcats hl2 hd2 hlen2 hms
      go_wp2_with fail
      refine (HA.out).mono ?_
      rintro x w5 ⟨rfl, hst5⟩
      have hAll := hst5.all
      rw [HD2.out] at hAll
      have HALL := Lib.hid hAll
      clear hst5 HA hAll
      go_wp2_with fail
      refine (HALL.out).mono ?_
      rintro x w6 ⟨v2, g2, rfl, hst6, hr6, _⟩
      obtain ⟨v7, w7, hrun, hst7⟩ := hst6.app hr6 (by have := HML.out; have := HLEN.out; omega)
      rw [← HMS.out] at hst7
      obtain ⟨_, _, g7, gm7, hbuf7, hm7, hg7, hgm7, hgg7, _, ho7⟩ := hst7
      obtain ⟨a2, c2, rfl⟩ := hr6.form
      obtain ⟨a7, c7, rfl⟩ := hm7.form
      have hL7 : IsRw 9 1 w7 gL (.slice aL ms.length cL) ms.length (Mt.svs ms) := HL.out.other ho7 (by have := HG1.out; have := HZ2.out; simp; omega)
      have hone7 : IsBuf w7 B1 g1 r e1 := HONE.out.other ho7 (by simp; omega) (by have := HG1.out; have := HZ2.out; simp; omega)
      have HW7 : Hid (Below B1 w w7) := HW4.out.trans (ho7.toBelow (by simp; omega) (by have := HW4.out.size; have := HBB.out; omega))
      have HO1 := Lib.hid (blen_any hone7)
      have HO2 := Lib.hid (blen_any hbuf7)
      have HL7 := Lib.hid hL7
      have HM7 := Lib.hid hm7
      clear hst6 hr6 hbuf7 hm7 ho7 hL7 hone7 HALL
      go_wp2_with (at_builtin; refine wpList_append_run rfl _ _ 60 60 rfl _ _ rfl rfl hrun ?_)
      clear hrun
      refine (HO1.out).mono ?_
      rintro x w8 ⟨rfl, rfl⟩
      go_wp2_with fail
      refine (HO2.out).mono ?_
      rintro x w8 ⟨rfl, rfl⟩
      go_wp2_with fail
      go_loopw [107] (fun i wr => ∃ j : Nat, j ≤ ms.length ∧ i = .int .i64 j ∧ Hid (IsRw 9 1 wr gL (.slice aL ms.length cL) ms.length (Mt.svs ms) ∧ IsRw 9 1 wr gm7 (.slice a7 ms.length c7) ms.length (Mt.svs ms) ∧ Below B1 w wr)) (fun i _ => ms.length - (intOf i).toNat)
      case atStart => exact ⟨0, Nat.zero_le _, rfl, HL7.out, HM7.out, HW7.out⟩
      case round =>
        obtain ⟨j, hj, rfl, HI⟩ := hrel
        have hmsl : ms.length ≤ 2000000 := by
          have h := congrArg List.length HMS.out
          rw [List.length_append] at h
          have := HML.out; have := HLEN.out; omega
        by_cases hjlt : j < ms.length
        · obtain ⟨offL, capL, eL, _, _, hcL⟩ := HI.out.1.cell (by omega)
          obtain ⟨offM, capM, eM, _, _, hcM⟩ := HI.out.2.1.cell (by omega)
          cases eL
          cases eM
          have h1 := hcL j (by rw [Mt.svs_length]; exact hjlt)
          have h2 := hcM j (by rw [Mt.svs_length]; exact hjlt)
          rw [Mt.svs_get] at h1 h2
          clear hcL hcM
          go_wp2_with fail
          go_quiet (fail)
          go_wp2_with fail
          go_roundw
          case rel =>
            refine ⟨j + 1, by omega, by go_num, ?_⟩
            exact ⟨HI.out.1.kept rfl, HI.out.2.1.kept rfl, ⟨HI.out.2.2.os, HI.out.2.2.tape, HI.out.2.2.output, HI.out.2.2.size, HI.out.2.2.block⟩⟩
          case measure => simp [intOf]; omega
        · go_wp2_with fail
          refine (awake8_any _).mono ?_
          rintro e w9 ⟨rfl, hb⟩
          have HB9 := Lib.hid (HI.out.2.2.trans (hb.mono (by have := HI.out.2.2.size; have := HBB.out; omega)))
          clear hb
          go_wp2_with fail
          go_ret
          have HE := HB9.out
          rw [← HBB.out] at HE
          exact ⟨rfl, HE⟩

theorem walk (s : ByteArray) (a : Option Addr) (n c : Nat) (zs : List Int) (hs : s.size ≤ 140737488351232) (hn : n ≤ 9223372036854775807) (w : World) (hz : IsInts0 w a n zs) :
    Calls Try.prog 9 #[.string s, .slice a n c] w fun e w' => e = .returned (.bool true) ∧ Below w.heap.size w w' := by
  by_cases h : 20000 < s.size ∨ 50 < n
  · exact walk_far s a n c hs hn w h
  · exact walk_near s a n c zs (by omega) (by omega) w hz

/-! The step from the walk to the row. -/
theorem own : ownKnob Try.prog.godebug = none := by kernel_rfl
theorem laidOut : laidOutB Try.prog = true := by kernel_rfl
theorem cellsInt1 : Try.prog.cellsOf 3 = 1 := by kernel_rfl
/-- A slice of numbers that came in, read. -/
theorem open_ints {H : Type} {enc : TypeId × Value → H} {W : World} {a : Option Addr} {n c : Nat} {d : DataW H} {p : List MemPlace}
    (h : DataW.Trod enc Try.prog W 0 (fun _ => true) true 56 (.slice a n c) d p) : ∃ L, IsInts0 W a n L ∧ n ≤ 9223372036854775807 := by
  obtain ⟨fuel, hf⟩ := h
  rcases Go.ChangeShapes.open_ints Try.underlying56 Try.underlying3 cellsInt1 hf with ⟨hcs, _⟩ | ⟨x, len, cap, zs, hcs, _, hl, hm, hlen, _, hc, hw⟩
  · simp [Value.cells] at hcs
    obtain ⟨rfl, rfl, rfl⟩ := hcs
    exact ⟨[], ⟨rfl, .inl rfl, by simp⟩, by decide⟩
  · simp [Value.cells] at hcs
    obtain ⟨rfl, rfl, rfl⟩ := hcs
    have hbound : n ≤ 9223372036854775807 := by unfold maxLen at hm; omega
    have hz : zs.length = c := by simpa using hlen
    refine ⟨zs.take n, ⟨by rw [List.length_take]; omega, ?_, fun z hz => hw z (List.mem_of_mem_take hz)⟩, hbound⟩
    rcases Nat.eq_zero_or_pos n with h0 | h0
    · exact .inl h0
    · obtain ⟨b, off, spot⟩ := x
      have hspot : spot = none := by
        have h0 := hc 0 (by omega)
        simpa [Addr.add] using World.cell?_spot h0
      subst hspot
      refine .inr ⟨b, off, rfl, fun i hi => ?_⟩
      have hi' : i < n := by rw [List.length_take] at hi; omega
      have h1 := hc i (by omega)
      have e : (⟨b, off, none⟩ : Addr).add i = ⟨b, off + i, none⟩ := by unfold Addr.add; split <;> simp_all
      rw [e] at h1
      rw [h1]
      simp [List.getD, List.getElem?_eq_getElem (show i < zs.length by omega)]

set_option maxRecDepth 100000 in
theorem lifted (os : Os) (started : os.Started) (H : Type) (enc : TypeId × Value → H) :
    ReturnsInHanded {} Try.checked os 9 .any (Rows.feedPartsSpec.pre6 enc Try.prog Try.f9 Rows.feedPartsRow.domain false) (Rows.feedPartsSpec.post enc Try.prog Try.f9 false true false false) := by
  refine returnsInHanded_of_change_sized (C := Try.checked) own started (by kernel_rfl) Try.func9
    (ChangeSpec.witness6 (enc := enc) (C := Try.checked) false ⟨#[], #[.string .empty, .slice none 0 0], []⟩ 8 (by kernel_rfl) (by kernel_rfl) (by kernel_rfl) (by kernel_rfl)) ?_
  intro W base args ds gs before hval0 hW _ hsz0 _
  have hsz : (DataW.weightsEach Try.prog (Try.f9.params.toList ++ Rows.feedPartsSpec.plain.varTypes Try.prog) (ds ++ gs)).all (· ≤ reachBytes) = true := hsz0
  have hval : ∀ (j : Nat) t v, Try.f9.params[j]? = some t → args[j]? = some v → Value.okWide Try.prog W .any base t v := hval0
  have hW' := hW
  obtain ⟨p, q, hA0, hV, rfl, _, _⟩ := hW
  have hA : DataW.TrodAll enc Try.prog W 0 (fun _ => true) true Try.f9.params.toList args.toList ds p := hA0
  rw [Try.params9] at hA hval hsz
  obtain ⟨v0, vs0, d0, ds0, p0, q0, hargs, rfl, rfl, h0, r0⟩ := trodAll_cons hA
  obtain ⟨v1, vs1, d1, ds1, p1, q1, rfl, rfl, rfl, h1, r1⟩ := trodAll_cons r0
  obtain ⟨rfl, rfl, rfl⟩ := trodAll_nil r1
  obtain rfl : args = #[v0, v1] := by cases args; simp_all
  obtain ⟨rfl, rfl⟩ := trodVars_none hV
  obtain ⟨a0, rfl, rfl, rfl, m0⟩ := open_string Try.underlying9 (hval 0 9 v0 rfl rfl) h0
  have w0 : a0.size ≤ 140737488351232 := by
    have h : a0.data.toList.length ≤ reachBytes := sized_string hsz (j := 0) (t := 9) rfl rfl
    simpa [reachBytes] using h
  obtain ⟨a1, n1, c1, rfl⟩ := okWide_slice Try.underlying56 (hval 1 56 v1 rfl rfl)
  have k1 := h1
  have lt1 : ∀ x ∈ p1, x.block < W.heap.size := by obtain ⟨m, hm⟩ := k1; exact DataW.trod_lt m _ _ _ hm
  obtain ⟨ss1, w1, hn1⟩ := open_ints h1
  clear hA0 hval0
  simp only [List.append_nil] at hW'
  refine (walk a0 a1 n1 c1 ss1 w0 hn1 W w1).mono fun e W' ⟨he, bel⟩ => ?_
  subst he
  exact ⟨_, rfl, _, _, _, [], _, [], hW', trodAll_mk1 (shut_bool Try.underlying4 _), (trodAll_cons_mk (shut_string Try.underlying9 m0) (trodAll_cons_mk (Below.trod laidOut (by kernel_rfl) (of_decide_eq_true (by kernel_rfl)) k1 bel lt1) trodAll_mk0)), rfl, bel.frame _, fun h => by cases h⟩

theorem proved : Rows.FeedPartsSaid :=
  OpenClaim.holds_of_wide 9 Try.f9 rfl rfl rfl rfl rfl rfl rfl ⟨rfl, rfl, rfl, rfl, rfl⟩ rfl rfl rfl rfl rfl (by kernel_rfl) Try.func9 (by kernel_rfl)
    (of_decide_eq_true (by kernel_rfl)) (by unfold Func.isWrapper; first | (rw [if_pos (by decide +kernel)]; kernel_rfl) | (rw [if_neg (by decide +kernel)]; exact ⟨rfl, rfl⟩))
    (fun os started H enc _ => lifted os started H enc)

#print axioms proved
end Go.Proofs.Ytfnggifadhploaa.feedParts
