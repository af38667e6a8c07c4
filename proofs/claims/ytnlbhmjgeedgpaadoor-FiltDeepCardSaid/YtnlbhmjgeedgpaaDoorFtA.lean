/-
  What filt's small calls come to: guarded, sign, place, readValue.
-/
import Derived.Test.YtnlbhmjgeedgpaaDoorFtMb
import Derived.Test.YtnlbhmjgeedgpaaDoorGp
import Derived.Test.YtnlbhmjgeedgpaaDoorUnhex
import Derived.Test.YtnlbhmjgeedgpaaDoorDnA
import Derived.IntWalk
set_option linter.unusedVariables false
set_option linter.unusedSimpArgs false
namespace Go.Proofs.YtnlbhmjgeedgpaaDoor
open Go.RowKit

theorem guarded10_any (c : UInt8) (w : World) : Calls Tryd.prog 65 #[.int .u8 (c.toNat : Int)] w fun e w' => e = .returned (.bool (Mt.guardF c)) ∧ w = w' := by
  have hz : ∀ k : Nat, k < 256 → ((c == UInt8.ofNat k) = ((c.toNat : Int) == (k : Int))) := fun k hk => by
    rw [Bool.eq_iff_iff]
    simp only [beq_iff_eq]
    constructor
    · rintro rfl; simp; omega
    · intro h; apply UInt8.toNat_inj.1; simp; omega
  have hg : Mt.guardF c = (((c.toNat : Int) == 0) || ((c.toNat : Int) == 40) || ((c.toNat : Int) == 41) || ((c.toNat : Int) == 42) || ((c.toNat : Int) == 92)) := by
    have h0 := hz 0 (by decide); have h1 := hz 40 (by decide); have h2 := hz 41 (by decide); have h3 := hz 42 (by decide); have h4 := hz 92 (by decide)
    unfold Mt.guardF
    exact congr (congrArg _ (congr (congrArg _ (congr (congrArg _ (congr (congrArg _ h0) h1)) h2)) h3)) h4
  rw [hg]
  clear hg hz
  generalize (c.toNat : Int) = n at *
  obtain ⟨b0, h0⟩ : ∃ b, (n == 0) = b := ⟨_, rfl⟩
  obtain ⟨b1, h1⟩ : ∃ b, (n == 40) = b := ⟨_, rfl⟩
  obtain ⟨b2, h2⟩ : ∃ b, (n == 41) = b := ⟨_, rfl⟩
  obtain ⟨b3, h3⟩ : ∃ b, (n == 42) = b := ⟨_, rfl⟩
  obtain ⟨b4, h4⟩ : ∃ b, (n == 92) = b := ⟨_, rfl⟩
  rw [h0, h1, h2, h3, h4]
  cases b0
  · cases b1
    · cases b2
      · cases b3
        · cases b4
          all_goals
            go_enter Tryd.func65, Tryd.ntmps65
            go_wp2
            go_ret
            exact ⟨rfl, rfl⟩
        · go_enter Tryd.func65, Tryd.ntmps65
          go_wp2
          go_ret
          exact ⟨rfl, rfl⟩
      · go_enter Tryd.func65, Tryd.ntmps65
        go_wp2
        go_ret
        exact ⟨rfl, rfl⟩
    · go_enter Tryd.func65, Tryd.ntmps65
      go_wp2
      go_ret
      exact ⟨rfl, rfl⟩
  · go_enter Tryd.func65, Tryd.ntmps65
    go_wp2
    go_ret
    exact ⟨rfl, rfl⟩
theorem sign10_5 (w : World) : Calls Tryd.prog 39 #[.int .i64 5] w fun e w' => e = .returned (.string ⟨#[62, 61]⟩) ∧ w = w' := by
  go_enter Tryd.func39, Tryd.ntmps39
  go_wp2
  go_ret
  exact ⟨rfl, rfl⟩
theorem sign10_6 (w : World) : Calls Tryd.prog 39 #[.int .i64 6] w fun e w' => e = .returned (.string ⟨#[60, 61]⟩) ∧ w = w' := by
  go_enter Tryd.func39, Tryd.ntmps39
  go_wp2
  go_ret
  exact ⟨rfl, rfl⟩
theorem sign10_8 (w : World) : Calls Tryd.prog 39 #[.int .i64 8] w fun e w' => e = .returned (.string ⟨#[126, 61]⟩) ∧ w = w' := by
  go_enter Tryd.func39, Tryd.ntmps39
  go_wp2
  go_ret
  exact ⟨rfl, rfl⟩
def Mt.placeN (d n : Int) : Int := if 64 < d then 6 else if 1000 < n then 9 else 0
theorem place10_any (d n : Int) (w : World) : Calls Tryd.prog 32 #[.int .i64 d, .int .i64 n] w fun e w' => e = .returned (.int .i64 (Mt.placeN d n)) ∧ w = w' := by
  by_cases h1 : (64 : Int) < d
  · rw [show Mt.placeN d n = 6 from if_pos h1]
    go_enter Tryd.func32, Tryd.ntmps32
    go_wp2
    go_ret
    exact ⟨rfl, rfl⟩
  · by_cases h2 : (1000 : Int) < n
    · rw [show Mt.placeN d n = 9 from by unfold Mt.placeN; rw [if_neg h1, if_pos h2]]
      go_enter Tryd.func32, Tryd.ntmps32
      go_wp2
      go_ret
      exact ⟨rfl, rfl⟩
    · rw [show Mt.placeN d n = 0 from by unfold Mt.placeN; rw [if_neg h1, if_neg h2]]
      go_enter Tryd.func32, Tryd.ntmps32
      go_wp2
      go_ret
      exact ⟨rfl, rfl⟩

/-- What readValue answers. -/
def readFV : Option (List UInt8) → Value
  | none => .tuple #[.string ⟨#[]⟩, .bool false]
  | some l => .tuple #[.string (Mt.str l), .bool true]
def Mt.mapO (o : List UInt8) : Option (List UInt8) → Option (List UInt8)
  | none => none
  | some l => some (o ++ l)
theorem Mt.mapO_nil (x : Option (List UInt8)) : Mt.mapO [] x = x := by cases x <;> rfl
theorem Mt.mapO_two (o p : List UInt8) (x : Option (List UInt8)) : Mt.mapO o (Mt.mapO p x) = Mt.mapO (o ++ p) x := by cases x <;> simp [Mt.mapO]
theorem Mt.mapO_map (o : List UInt8) (x : Option (List UInt8)) : x.map (o ++ ·) = Mt.mapO o x := by cases x <;> rfl
theorem Mt.drop_at {s : ByteArray} {i : Nat} (h : i < s.size) : s.data.toList.drop i = s[i] :: s.data.toList.drop (i + 1) := by
  rw [List.drop_eq_getElem_cons (by simpa using h)]; rfl
theorem Mt.extract_two {s : ByteArray} {i : Nat} (h : i + 1 < s.size) : s.extract i (i + 2) = Mt.str [s[i], s[i + 1]] := by
  apply ByteArray.ext
  rw [ByteArray.data_extract]
  apply Array.ext'
  have h2 : s.data.toList.drop i = s[i] :: s[i + 1] :: s.data.toList.drop (i + 2) := by rw [Mt.drop_at (by omega), Mt.drop_at (i := i + 1) (by omega)]
  simp [Mt.str, Array.toList_extract, List.extract, h2]
set_option maxRecDepth 100000 in
set_option maxHeartbeats 1000000 in
theorem readValue10_any (s : ByteArray) (w : World) (hs : s.size ≤ 1000000000) :
    Calls Tryd.prog 79 #[.string s] w fun e w' => e = .returned (readFV (Mt.readF s.data.toList)) ∧ Below w.heap.size w w' := by
  obtain ⟨i0, hi, hz0, hz1, hz2⟩ := info_parts Tryd.infoU8
  have HI := Lib.hid (And.intro hi (And.intro hz0 (And.intro hz1 hz2)))
  clear hi hz0 hz1 hz2
  obtain ⟨R, hR⟩ : ∃ R, Mt.readF s.data.toList = R := ⟨_, rfl⟩
  have HR0 : Hid (Mt.mapO [] (Mt.readF (s.data.toList.drop 0)) = R) := Lib.hid (by rw [Mt.mapO_nil]; exact hR)
  rw [hR]
  clear hR
  go_enter Tryd.func79, Tryd.ntmps79
  go_wp2_with fail
  go_loopw [4, 5] (fun v iv wr => ∃ (i : Nat) (o : List UInt8) (a : Option Addr) (c : Nat), iv = .int .i64 (i : Int) ∧ v = .slice a o.length c ∧ i ≤ s.size ∧ o.length ≤ i ∧ Hid (IsOwn 5 1 w.heap.size wr (.slice a o.length c) o.length (Mt.cs o)) ∧ Hid (Mt.mapO o (Mt.readF (s.data.toList.drop i)) = R) ∧ Hid (Below w.heap.size w wr))
    (fun _ iv _ => s.size - (intOf iv).toNat)
  case atStart => exact ⟨0, [], none, 0, rfl, rfl, Nat.zero_le _, Nat.zero_le _, Lib.hid (IsOwn.nil _ _ _ _), HR0, Lib.hid (Below.refl _ _)⟩
  case round =>
    obtain ⟨i, o, a, c, rfl, rfl, his, ho, HO, HR, HB⟩ := hrel
    by_cases hlt : i < s.size
    · have d1 : decide ((i : Int) < (s.size : Int)) = true := decide_eq_true (Int.ofNat_lt.2 hlt)
      have d2 : decide (i < s.size) = true := decide_eq_true hlt
      have hdr := Mt.drop_at hlt
      obtain ⟨b, hb⟩ : ∃ b, s[i] = b := ⟨_, rfl⟩
      have HG := Lib.hid (fun u => guarded10_any b u)
      obtain ⟨g, hg⟩ : ∃ g, Mt.guardF b = g := ⟨_, rfl⟩
      rw [hg] at HG
      rw [hb] at hdr
      have HW1 : Hid (wrap64 ((i : Int) + 1) = ((i + 1 : Nat) : Int)) := Lib.hid (by unfold wrap64; omega)
      cases g
      · have HR1 : Hid (Mt.mapO (o ++ [b]) (Mt.readF (s.data.toList.drop (i + 1))) = R) := Lib.hid (by
          rw [← HR.out, hdr, Mt.readF_plain hg, Mt.mapO_map, Mt.mapO_two])
        obtain ⟨a3, c3, w3, hrun, hown3, hb3⟩ := own_push (T := 54) (tx := 54) Tryd.underlying54 Tryd.underlying54 HI.out.1 HI.out.2.1 HI.out.2.2.1 HI.out.2.2.2 rfl HO.out HB.out.size (Mt.cs_one _) #[.int .u8 (b.toNat : Int)] rfl (by simp [Value.oneCell']) (by omega) (by omega)
        have HO3 := Lib.hid hown3
        have HB3 := Lib.hid (HB.out.trans hb3)
        clear hown3 hb3 hdr hg
        go_wp2_with fail
        refine (HG.out _).mono ?_
        rintro e w2 ⟨rfl, rfl⟩
        go_wp2_with (refine wpList_append_run rfl _ _ 54 54 rfl _ _ rfl rfl hrun ?_)
        go_wp2_with fail
        go_roundw
        case rel => exact ⟨i + 1, o ++ [b], a3, c3, by go_num, by simp, hlt, by simp; omega, by have h := HO3.out; rw [List.length_append, List.length_singleton, Mt.cs_append]; exact Lib.hid h, HR1, HB3⟩
        case measure => simp [intOf]; omega
      · by_cases h92 : b = 92
        · by_cases h2 : i + 2 < s.size
          · have h3 : i + 2 + 1 ≤ s.size := h2
            have hd3 : s.data.toList.drop i = 92 :: s[i + 1] :: s[i + 2] :: s.data.toList.drop (i + 3) := by
              rw [hdr, h92, Mt.drop_at (i := i + 1) (by omega), Mt.drop_at (i := i + 2) (by omega)]
            have hx := Mt.extract_two (s := s) (i := i + 1) (by omega)
            have hx2 : s.extract (i + 1) (i + 3) = Mt.str [s[i + 1], s[i + 2]] := hx
            obtain ⟨b1, hb1⟩ : ∃ b1, s[i + 1] = b1 := ⟨_, rfl⟩
            obtain ⟨b2, hb2⟩ : ∃ b2, s[i + 2] = b2 := ⟨_, rfl⟩
            rw [hb1, hb2] at hd3 hx2
            have HU := Lib.hid (fun u => unhex_any (Mt.str [b1, b2]) u (by rw [Mt.str_size]; simp))
            rw [Mt.str_data] at HU
            obtain ⟨ux, hux⟩ : ∃ ux, (Mt.unhex [b1, b2]).1 = ux := ⟨_, rfl⟩
            obtain ⟨uo, huo⟩ : ∃ uo, (Mt.unhex [b1, b2]).2 = uo := ⟨_, rfl⟩
            have hul := Mt.unhex2_len b1 b2
            have HR1 : Hid (Mt.mapO o (if uo = true then Mt.mapO ux (Mt.readF (s.data.toList.drop (i + 3))) else none) = R) := Lib.hid (by
              rw [← HR.out, hd3, Mt.readF_hex, hux, huo]
              cases uo
              · rfl
              · simp only [if_true]; rw [Mt.mapO_map])
            rw [hux] at HU hul
            rw [huo] at HU
            have hne : ((b.toNat : Int) != 92) = false := by rw [h92]; rfl
            have hge : decide ((s.size : Int) ≤ (i : Int) + 2) = false := decide_eq_false (by omega)
            have hw1 : (0 : Int) ≤ (i : Int) + 1 := by omega
            have hw2 : ((i : Int) + 1).toNat = i + 1 := by omega
            have hw3 : ((i : Int) + 3).toNat = i + 3 := by omega
            have hw4 : (i : Int) + 3 ≤ (s.size : Int) := by omega
            have hw5 : (0 : Int) ≤ (i : Int) + 3 := by omega
            have hw6 : (i : Int) + 1 ≤ (i : Int) + 3 := by omega
            cases uo
            · have HN : Hid (R = none) := Lib.hid (by rw [← HR1.out]; rfl)
              clear hd3 hx hb1 hb2 hux huo hg hdr HR1 h92
              go_wp2_with fail
              refine (HG.out _).mono ?_
              rintro e w2 ⟨rfl, rfl⟩
              go_wp2_with fail
              refine (HU.out _).mono ?_
              rintro e w2 ⟨rfl, hb3⟩
              have HB3 := Lib.hid (HB.out.trans (hb3.mono HB.out.size))
              clear hb3
              go_wp2_with fail
              exact bodyPost_ret (v := readFV none) (by simp [results, Tryd.results79, go_sem, readFV]) rfl ⟨by rw [HN.out], HB3.out⟩
            · have HN : Hid (Mt.mapO (o ++ ux) (Mt.readF (s.data.toList.drop (i + 3))) = R) := Lib.hid (by rw [← HR1.out]; simp only [if_true]; rw [Mt.mapO_two])
              have HPU := Lib.hid (fun (u : World) (hu : Below wr.heap.size wr u) => own_text (HO.out.below hu) (Nat.le_trans HB.out.size hu.size) (Mt.str ux) (by rw [Mt.str_size]; omega))
              clear hd3 hx hb1 hb2 hux huo hg hdr HR1 h92
              go_wp2_with fail
              refine (HG.out _).mono ?_
              rintro e w2 ⟨rfl, rfl⟩
              go_wp2_with fail
              refine (HU.out _).mono ?_
              rintro e w2 ⟨rfl, hb3⟩
              obtain ⟨a3, c3, w3, hrun, hown3, hb4⟩ := HPU.out _ hb3
              have HO3 := Lib.hid hown3
              have HB3 := Lib.hid ((HB.out.trans (hb3.mono HB.out.size)).trans hb4)
              have HX : Hid (o.length + (Mt.str ux).size = (o ++ ux).length) := Lib.hid (by rw [Mt.str_size, List.length_append])
              clear hb3 hown3 hb4
              go_wp2_with (refine wpList_append_run rfl _ _ 54 9 rfl _ _ rfl rfl hrun ?_)
              go_wp2_with fail
              go_roundw
              case rel => exact ⟨i + 3, o ++ ux, a3, c3, by go_num, by rw [HX.out], h3, by simp; omega, by have h := HO3.out; rw [HX.out] at h; exact Lib.hid h, HN, HB3⟩
              case measure => simp [intOf]; omega
          · have hge : decide ((s.size : Int) ≤ (i : Int) + 2) = true := decide_eq_true (by omega)
            have hne : ((b.toNat : Int) != 92) = false := by rw [h92]; rfl
            have HN : Hid (R = none) := Lib.hid (by
              rw [← HR.out, hdr, h92, Mt.readF_short (by rw [List.length_drop]; have e : s.data.toList.length = s.size := rfl; omega)]; rfl)
            clear hdr hg h92
            go_wp2_with fail
            refine (HG.out _).mono ?_
            rintro e w2 ⟨rfl, rfl⟩
            go_wp2_with fail
            exact bodyPost_ret (v := readFV none) (by simp [results, Tryd.results79, go_sem, readFV]) rfl ⟨by rw [HN.out], HB.out⟩
        · have HR1 : Hid (R = none) := Lib.hid (by rw [← HR.out, hdr, Mt.readF_bad hg h92]; rfl)
          have hne : ((b.toNat : Int) != 92) = true := by
            have : b.toNat ≠ 92 := fun e => h92 (UInt8.toNat_inj.1 e)
            simp; omega
          clear hdr hg
          go_wp2_with fail
          refine (HG.out _).mono ?_
          rintro e w2 ⟨rfl, rfl⟩
          go_wp2_with fail
          exact bodyPost_ret (v := readFV none) (by simp [results, Tryd.results79, go_sem, readFV]) rfl ⟨by rw [HR1.out], HB.out⟩
    · have HR1 : Hid (R = some o) := Lib.hid (by rw [← HR.out, List.drop_eq_nil_of_le (by have e : s.data.toList.length = s.size := rfl; omega)]; simp [Mt.readF, Mt.mapO])
      have d1 : decide ((i : Int) < (s.size : Int)) = false := decide_eq_false (fun h => hlt (Int.ofNat_lt.1 h))
      have d2 : decide (i < s.size) = false := decide_eq_false hlt
      have hcv := own_conv HO.out
      go_wp2_with fail
      exact bodyPost_ret (v := readFV (some o)) (by simp [results, Tryd.results79, go_sem, readFV]) rfl ⟨by rw [HR1.out], HB.out⟩
end Go.Proofs.YtnlbhmjgeedgpaaDoor
