/-
  FiltDeep is proved: as many filters may be within one another, and as many in all, as may be. No condition but the row's own: the listed package variables hold what their texts say.
-/
import Derived.Test.YtnlbhmjgeedgpaaDoorRows
import Derived.Test.YtnlbhmjgeedgpaaDoorCards
import Derived.Test.YtnlbhmjgeedgpaaDoorTie
import Derived.Test.YtnlbhmjgeedgpaaDoorFtDoor
import Derived.Test.YtnlbhmjgeedgpaaDoorFtO
import Derived.Test.YtnlbhmjgeedgpaaDoorFtP
set_option linter.unusedVariables false
set_option linter.unusedSimpArgs false
namespace Go.Proofs.YtnlbhmjgeedgpaaDoor.filtDeep
open Go.ChangeShapes Go.WideShapes Go.ChangeAt Go.RowKit
set_option linter.unusedVariables false

theorem nest_pcs : ∀ i, (Mt.nestF i).pcs = []
  | 0 => rfl
  | _ + 1 => rfl
theorem nest_value : ∀ i, (Mt.nestF i).value = []
  | 0 => rfl
  | _ + 1 => rfl
theorem nest_ok : ∀ i, Mt.FlOk (Mt.nestF i)
  | 0 => ⟨by decide, by decide, by decide, (fun p hp => nomatch hp), by decide⟩
  | _ + 1 => ⟨Nat.zero_le _, Nat.zero_le _, Nat.zero_le _, (fun p hp => nomatch hp), by show (1 : Nat) ≤ _; decide⟩
/-- Where the nesting stands. -/
def DeepS (w0 : World) (b i : Nat) (wr : World) : Prop := ∃ (k : Int) (s : ByteArray) (a : Option Addr) (n c : Nat), wr.heap[b]? = some (.cells #[.int .i64 k, .string s, .string ⟨#[]⟩, .slice none 0 0, .slice a n c] 25) ∧
  IsFl wr (fun x => x ≠ b) (i + 1) (.agg #[.int .i64 k, .string s, .string ⟨#[]⟩, .slice none 0 0, .slice a n c]) (Mt.nestF i) ∧ w0.heap.size ≤ b ∧ Below w0.heap.size w0 wr
theorem deep_start (w : World) : DeepS w w.heap.size 0 (w.alloc (.cells #[.int .i64 7, .string ⟨#[97]⟩, .string ⟨#[]⟩, .slice none 0 0, .slice none 0 0] 25)) :=
  ⟨7, ⟨#[97]⟩, none, 0, 0, heap_alloc_new w _, ⟨none, 0, none, 0, rfl, nest_ok 0, .inl rfl, .inl rfl⟩, Nat.le_refl _, (Below.refl _ w).alloc (Nat.le_refl _) _⟩
theorem deep_step {w0 wr u : World} {b i : Nat} {k : Int} {s : ByteArray} {a : Option Addr} {n c : Nat} (hrow : wr.heap[b]? = some (.cells #[.int .i64 k, .string s, .string ⟨#[]⟩, .slice none 0 0, .slice a n c] 25))
    (hfl : IsFl wr (fun x => x ≠ b) (i + 1) (.agg #[.int .i64 k, .string s, .string ⟨#[]⟩, .slice none 0 0, .slice a n c]) (Mt.nestF i)) (hb : w0.heap.size ≤ b) (hbel : Below w0.heap.size w0 wr)
    (r : Int) (hr : r = ((i % 3 : Nat) : Int))
    (hu : (((((wr.alloc (.cells #[.int .i64 k, .string s, .string ⟨#[]⟩, .slice none 0 0, .slice a n c] 25)).setCell ⟨b, 0, none⟩ (.int .i64 r)).setCell ⟨b, 1, none⟩ (.string ⟨#[]⟩)).setCell ⟨b, 2, none⟩ (.string ⟨#[]⟩)).setCell ⟨b, 3, none⟩ (.slice none 0 0)).setCell ⟨b, 4, none⟩ (.slice (some ⟨wr.heap.size, 0, none⟩) 1 1) = u) : DeepS w0 b (i + 1) u := by
  have hlt := lt_of_block hrow
  have hb1 := (Below.refl wr.heap.size wr).alloc (Nat.le_refl _) (.cells #[.int .i64 k, .string s, .string ⟨#[]⟩, .slice none 0 0, .slice a n c] 25)
  have h1 := heap_alloc_new wr (.cells #[.int .i64 k, .string s, .string ⟨#[]⟩, .slice none 0 0, .slice a n c] 25)
  generalize wr.alloc (.cells #[.int .i64 k, .string s, .string ⟨#[]⟩, .slice none 0 0, .slice a n c] 25) = w1 at *
  have hrow1 := (hb1.block b hlt).trans hrow
  have h5 := set5F hrow1 (.int .i64 r) (.string ⟨#[]⟩) (.string ⟨#[]⟩) (.slice none 0 0) (.slice (some ⟨wr.heap.size, 0, none⟩) 1 1)
  have ho := only5F w1 b (.int .i64 r) (.string ⟨#[]⟩) (.string ⟨#[]⟩) (.slice none 0 0) (.slice (some ⟨wr.heap.size, 0, none⟩) 1 1)
  rw [hu] at h5 ho
  have hlt1 := hb1.size
  have hnew := (ho.block wr.heap.size (lt_of_block h1) (by simp; omega)).trans h1
  obtain ⟨⟨q0, q1, q2, q3, q4⟩, -⟩ := box5F hnew
  refine ⟨r, ⟨#[]⟩, some ⟨wr.heap.size, 0, none⟩, 1, 1, h5, ?_, hb, (hbel.trans (hb1.mono hbel.size)).trans (ho.toBelow (by simpa using hb) (by have := hbel.size; omega))⟩
  refine ⟨none, 0, some ⟨wr.heap.size, 0, none⟩, 1, by rw [hr]; rfl, nest_ok (i + 1), .inl rfl, .inr ⟨wr.heap.size, 0, rfl, by show wr.heap.size ≠ b; omega, fun j hj => ?_⟩⟩
  obtain rfl : j = 0 := by have : j < 1 := hj; omega
  refine ⟨_, _, _, _, _, q0, q1, q2, q3, q4, ?_⟩
  exact (hfl.below hb1).keep (fun x hx _ => hx) (fun x hx hl => ho.block x hl (by simpa using hx)) (Nat.le_refl _)
theorem nest_str {i : Nat} {c : UInt8} (hc : Mt.nsgn i = c) : (⟨#[40]⟩ : ByteArray) ++ ⟨#[c]⟩ ++ Mt.str (Mt.nestT i) ++ ⟨#[41]⟩ = Mt.str (Mt.nestT (i + 1)) := by
  apply ByteArray.ext
  apply Array.ext'
  simp [Mt.str, Mt.nestT, hc]
/-- What Parse tells beside the filter. -/
def errP : Except Nat Mt.Fl → Nat
  | .error e => e
  | .ok _ => 0
theorem parsP_form {w w' : World} {R : Except Nat Mt.Fl} {e : Ending} (h : ParsP w R e w') : Below w.heap.size w w' ∧ ∃ (k : Int) (s1 s2 : ByteArray) (a1 : Option Addr) (n1 c1 : Nat) (a2 : Option Addr) (n2 c2 : Nat), e = .returned (.tuple #[.agg #[.int .i64 k, .string s1, .string s2, .slice a1 n1 c1, .slice a2 n2 c2], .int .i64 (errP R : Int)]) := by
  obtain ⟨hb, h⟩ := h
  refine ⟨hb, ?_⟩
  cases R with
  | error k => obtain ⟨rfl, _⟩ := h; exact ⟨_, _, _, _, _, _, _, _, _, rfl⟩
  | ok f => obtain ⟨pa, pc, a, c, rfl, _⟩ := h; exact ⟨_, _, _, _, _, _, _, _, _, rfl⟩
/-- Where the row of many stands. -/
def WideS (w0 : World) (b base j : Nat) (wr : World) : Prop := b < base ∧ base ≤ wr.heap.size ∧ w0.heap.size ≤ b ∧ Below w0.heap.size w0 wr ∧ ∃ a c gk xs, wr.heap[b]? = some (.cells #[.int .i64 1, .string ⟨#[]⟩, .string ⟨#[]⟩, .slice none 0 0, .slice a j c] 25) ∧
  base ≤ gk ∧ IsRw 25 5 wr gk (.slice a j c) j xs ∧ AreFls wr (fun x => base ≤ x ∧ x ≠ gk) 1 xs (List.replicate j Mt.andF)
theorem wide_start {w0 w : World} (hb : Below w0.heap.size w0 w) : WideS w0 w.heap.size (w.heap.size + 1) 0 (w.alloc (.cells #[.int .i64 1, .string ⟨#[]⟩, .string ⟨#[]⟩, .slice none 0 0, .slice none 0 0] 25)) :=
  ⟨Nat.lt_succ_self _, by simp, hb.size, hb.trans (((Below.refl _ w).alloc (Nat.le_refl _) _).mono hb.size), none, 0, w.heap.size + 1, [], heap_alloc_new w _, Nat.le_refl _, IsRw.nil _ _ _ _, AreFls.nil _ _ _⟩
theorem wide_step {w0 wr : World} {b base j : Nat} (h : WideS w0 b base j wr) (hj : j ≤ 2000) : ∃ a c, wr.heap[b]? = some (.cells #[.int .i64 1, .string ⟨#[]⟩, .string ⟨#[]⟩, .slice none 0 0, .slice a j c] 25) ∧
    ∃ a' c' w6, (∀ ty, (Builtin.append_ #[23, 23] ty #[.slice a j c, .slice (some ⟨wr.heap.size, 0, none⟩) 1 1]).run Tryd.prog (wr.alloc (.cells #[.int .i64 0, .string ⟨#[]⟩, .string ⟨#[]⟩, .slice none 0 0, .slice none 0 0] 25)) = .ok (.slice a' (j + 1) c') w6) ∧
      w6.heap[b]? = some (.cells #[.int .i64 1, .string ⟨#[]⟩, .string ⟨#[]⟩, .slice none 0 0, .slice a j c] 25) ∧ WideS w0 b base (j + 1) (w6.setCell ⟨b, 4, none⟩ (.slice a' (j + 1) c')) := by
  obtain ⟨hb1, hb2, hb3, hbel, a, c, gk, xs, hrow, hgk, hrw, har⟩ := h
  refine ⟨a, c, hrow, ?_⟩
  have hlen : (List.replicate j Mt.andF).length = j := by simp
  obtain ⟨a', c', w6, g', hrun, hrw6, har6, hg6, ho6, hl6⟩ := fls_append (fs := List.replicate j Mt.andF) (f := Mt.andF) (x0 := .int .i64 0) (x1 := .string ⟨#[]⟩) (x2 := .string ⟨#[]⟩) (x3 := .slice none 0 0) (x4 := .slice none 0 0) (by rw [hlen]; exact hrw) har hgk hb2
    ⟨none, 0, none, 0, rfl, ⟨Nat.zero_le _, Nat.zero_le _, Nat.zero_le _, (fun p hp => nomatch hp), Nat.zero_le _⟩, .inl rfl, .inl rfl⟩ (by rw [hlen]; omega)
  rw [hlen] at hrun hrw6
  have hX6 := (ho6.block b (lt_of_block hrow) (by simp; omega)).trans hrow
  refine ⟨a', c', w6, hrun, hX6, ?_⟩
  have ho7 := (OnlyS.refl [b] w6).setCell (g := b) (i := 4) (by simp) (.slice a' (j + 1) c')
  have hX7 := heap_setCell_same w6 b 4 _ 25 (.slice a' (j + 1) c') hX6
  generalize w6.setCell ⟨b, 4, none⟩ (.slice a' (j + 1) c') = w7 at *
  refine ⟨hb1, by have := ho6.size; have := ho7.size; omega, hb3, (hbel.trans (ho6.toBelow (by simp; omega) hbel.size)).trans (ho7.toBelow (by simpa using hb3) (by have := ho6.size; have := hbel.size; omega)), a', c', g', xs ++ [.int .i64 0, .string ⟨#[]⟩, .string ⟨#[]⟩, .slice none 0 0, .slice none 0 0], hX7, hg6, ?_, ?_⟩
  · rw [List.length_append, hlen] at hrw6
    exact hrw6.other ho7 (by simp; omega)
  · rw [List.replicate_succ']
    exact har6.keep (Nat.le_refl _) (fun _ h _ => h) (fun x hx hl => ho7.block x hl (by simp; omega))
theorem wide_fl {w0 wr : World} {b base j : Nat} (h : WideS w0 b base j wr) (hj : j ≤ 2000) : ∃ a c, wr.heap[b]? = some (.cells #[.int .i64 1, .string ⟨#[]⟩, .string ⟨#[]⟩, .slice none 0 0, .slice a j c] 25) ∧ IsFl wr (fun _ => True) 2 (.agg #[.int .i64 1, .string ⟨#[]⟩, .string ⟨#[]⟩, .slice none 0 0, .slice a j c]) (Mt.wideF j) := by
  obtain ⟨hb1, hb2, hb3, hbel, a, c, gk, xs, hrow, hgk, hrw, har⟩ := h
  obtain ⟨a9, c9, e9, hk9⟩ := fkids_of (ok := fun x => True) hrw trivial (har.keep (ok' := fun _ => True) (Nat.le_refl _) (fun _ _ _ => trivial) (fun _ _ _ => rfl)) (by simp)
  have ea : a = a9 := by injection e9
  have ec : c = c9 := by injection e9
  subst ea ec
  refine ⟨a, c, hrow, none, 0, a, c, ?_, ⟨Nat.zero_le _, Nat.zero_le _, Nat.zero_le _, (fun p hp => nomatch hp), ?_⟩, .inl rfl, hk9⟩
  · show _ = Value.agg #[_, _, _, _, .slice a (List.replicate j Mt.andF).length c]
    rw [List.length_replicate]; rfl
  · show (List.replicate j Mt.andF).length ≤ _
    rw [List.length_replicate]; omega
theorem wide_str (j : Nat) : Mt.str (Mt.wideT j) ++ ⟨#[40, 38, 41]⟩ = Mt.str (Mt.wideT (j + 1)) := by
  apply ByteArray.ext
  apply Array.ext'
  simp [Mt.str, Mt.wideT, Mt.wideK]
theorem wide_end (j : Nat) : Mt.str (Mt.wideT j) ++ ⟨#[41]⟩ = Mt.str (Mt.wideT j ++ [41]) := by
  apply ByteArray.ext
  apply Array.ext'
  simp [Mt.str]
theorem ret_sv {a b : ByteArray} (h : a = b) : Value.string a = .string b := by rw [h]
set_option maxRecDepth 100000 in
set_option maxHeartbeats 4000000 in
theorem walk (a b : Int) (wa : (Lit.int .i64 a).wf = true) (wb : (Lit.int .i64 b).wf = true) (w : World) :
    Calls Tryd.prog 8 #[.int .i64 a, .int .i64 b] w fun e w' => e = .returned (.bool true) ∧ Below w.heap.size w w' := by
  have hmod : ∀ (x : Int) (m : Nat), 0 < m → m ≤ 1000 → ∃ K : Nat, K < m ∧ wrap64 ((IntKind.u64.wrap x).tmod m) = (K : Int) := by
    intro x m hm hm2
    have h0 := wrap_u64_nonneg x
    obtain ⟨u, hu⟩ := Int.eq_ofNat_of_zero_le h0
    rw [hu, Int.tmod_eq_emod_of_nonneg (by omega)]
    have hlt := Nat.mod_lt u hm
    refine ⟨u % m, hlt, ?_⟩
    have e : (u : Int) % (m : Int) = ((u % m : Nat) : Int) := (Int.natCast_emod u m).symm
    show wrap64 ((u : Int) % (m : Int)) = _
    rw [e]
    unfold wrap64
    omega
  obtain ⟨K, hK, hKe⟩ := hmod a 70 (by decide) (by decide)
  obtain ⟨M, hM, hMe⟩ := hmod b 20 (by decide) (by decide)
  have hKe' : wrap64 ((IntKind.u64.wrap a).tmod 70) = (K : Int) := hKe
  have hMe' : wrap64 ((IntKind.u64.wrap b).tmod 20) = (M : Int) := hMe
  clear hmod hKe hMe wa wb
  have hK' : (K : Int) < 70 := by omega
  have hM' : (M : Int) < 20 := by omega
  go_enter Tryd.func8, Tryd.ntmps8
  go_wp2_with fail
  clear hKe'
  have HD0 := Lib.hid (deep_start w)
  go_loopw [7, 25] (fun sv iv wr => ∃ i : Nat, i ≤ K ∧ iv = .int .i64 (i : Int) ∧ sv = .string (Mt.str (Mt.nestT i)) ∧ Hid (DeepS w w.heap.size i wr)) (fun _ iv _ => K - (RowKit.intOf iv).toNat)
  case atStart => exact ⟨0, Nat.zero_le _, rfl, rfl, HD0⟩
  case round =>
    obtain ⟨i, hi, rfl, rfl, HD⟩ := hrel
    obtain ⟨k, s, aa, nn, c, hrow, hfl, hbb, hbel⟩ := HD.out
    have HROW := Lib.hid hrow
    have HFL := Lib.hid hfl
    have HBEL := Lib.hid hbel
    have HSZ := Lib.hid (Mt.str_size (Mt.nestT i))
    have HNL := Lib.hid (Mt.nestT_length i)
    have hss : (Mt.str (Mt.nestT i)).size ≤ 300 := by rw [HSZ.out, HNL.out]; omega
    obtain ⟨⟨x0, x1, x2, x3, x4⟩, f0, f1, f2, f3, f4⟩ := box5F hrow
    by_cases hlt : i < K
    · have d1 : decide ((i : Int) < (K : Int)) = true := decide_eq_true (Int.ofNat_lt.2 hlt)
      have d2 : decide (i < K) = true := decide_eq_true hlt
      have d3 : decide ((i : Int) < 1 + (K : Int) - 1) = true := decide_eq_true (by omega)
      have hb1 := (Below.refl wr.heap.size wr).alloc (Nat.le_refl _) (.cells #[.int .i64 k, .string s, .string ⟨#[]⟩, .slice none 0 0, .slice aa nn c] 25)
      obtain ⟨⟨y0, y1, y2, y3, y4⟩, g0, g1, g2, g3, g4⟩ := box5F ((hb1.block _ (lt_of_block hrow)).trans hrow)
      have HNS := Mt.nsgn_cases i
      have hmod3 : (i : Int) % 3 = ((i % 3 : Nat) : Int) := (Int.natCast_emod i 3).symm
      have HMOD := Lib.hid hmod3
      obtain ⟨S, hS⟩ : ∃ S, Mt.str (Mt.nestT i) = S := ⟨_, rfl⟩
      have HS := Lib.hid hS
      rw [hS] at hss ⊢
      clear hmod3 hb1 hrow hfl hbel HD hS
      rcases HNS with ⟨hn, hk3⟩ | ⟨hn, hk3⟩ | ⟨hn, hk3⟩
      · have hr : (i : Int) % 3 = 0 := HMOD.out.trans hk3
        have HSTR := Lib.hid (nest_str hn)
        have hex : (⟨#[38, 124, 33]⟩ : ByteArray).extract 0 1 = ⟨#[38]⟩ := rfl
        have HK3 := Lib.hid hk3
        clear hn hk3
        go_upto_region 8 with fail
        have HDN := Lib.hid (fun u hu => deep_step (u := u) HROW.out HFL.out hbb HBEL.out 0 HK3.out.symm hu)
        obtain ⟨wz, hwz⟩ : ∃ u, ((((((wr.alloc (.cells #[.int .i64 k, .string s, .string ⟨#[]⟩, .slice none 0 0, .slice aa nn c] 25)).setCell ⟨w.heap.size, 0, none⟩ (.int .i64 0)).setCell ⟨w.heap.size, 1, none⟩ (.string ⟨#[]⟩)).setCell ⟨w.heap.size, 2, none⟩ (.string ⟨#[]⟩)).setCell ⟨w.heap.size, 3, none⟩ (.slice none 0 0)).setCell ⟨w.heap.size, 4, none⟩ (.slice (some ⟨wr.heap.size, 0, none⟩) 1 1)) = u := ⟨_, rfl⟩
        have HDZ := Lib.hid (HDN.out wz hwz)
        rw [hwz]
        clear hwz HDN
        go_wp2_with fail
        go_roundw
        case rel => exact ⟨i + 1, hlt, by go_num, ret_sv (by rw [← HS.out]; exact HSTR.out), HDZ⟩
        case measure => simp [RowKit.intOf]; omega
      · have hr : (i : Int) % 3 = 1 := HMOD.out.trans hk3
        have HSTR := Lib.hid (nest_str hn)
        have hex : (⟨#[38, 124, 33]⟩ : ByteArray).extract 1 2 = ⟨#[124]⟩ := rfl
        have HK3 := Lib.hid hk3
        clear hn hk3
        go_upto_region 8 with fail
        have HDN := Lib.hid (fun u hu => deep_step (u := u) HROW.out HFL.out hbb HBEL.out 1 HK3.out.symm hu)
        obtain ⟨wz, hwz⟩ : ∃ u, ((((((wr.alloc (.cells #[.int .i64 k, .string s, .string ⟨#[]⟩, .slice none 0 0, .slice aa nn c] 25)).setCell ⟨w.heap.size, 0, none⟩ (.int .i64 1)).setCell ⟨w.heap.size, 1, none⟩ (.string ⟨#[]⟩)).setCell ⟨w.heap.size, 2, none⟩ (.string ⟨#[]⟩)).setCell ⟨w.heap.size, 3, none⟩ (.slice none 0 0)).setCell ⟨w.heap.size, 4, none⟩ (.slice (some ⟨wr.heap.size, 0, none⟩) 1 1)) = u := ⟨_, rfl⟩
        have HDZ := Lib.hid (HDN.out wz hwz)
        rw [hwz]
        clear hwz HDN
        go_wp2_with fail
        go_roundw
        case rel => exact ⟨i + 1, hlt, by go_num, ret_sv (by rw [← HS.out]; exact HSTR.out), HDZ⟩
        case measure => simp [RowKit.intOf]; omega
      · have hr : (i : Int) % 3 = 2 := HMOD.out.trans hk3
        have HSTR := Lib.hid (nest_str hn)
        have hex : (⟨#[38, 124, 33]⟩ : ByteArray).extract 2 3 = ⟨#[33]⟩ := rfl
        have HK3 := Lib.hid hk3
        clear hn hk3
        go_upto_region 8 with fail
        have HDN := Lib.hid (fun u hu => deep_step (u := u) HROW.out HFL.out hbb HBEL.out 2 HK3.out.symm hu)
        obtain ⟨wz, hwz⟩ : ∃ u, ((((((wr.alloc (.cells #[.int .i64 k, .string s, .string ⟨#[]⟩, .slice none 0 0, .slice aa nn c] 25)).setCell ⟨w.heap.size, 0, none⟩ (.int .i64 2)).setCell ⟨w.heap.size, 1, none⟩ (.string ⟨#[]⟩)).setCell ⟨w.heap.size, 2, none⟩ (.string ⟨#[]⟩)).setCell ⟨w.heap.size, 3, none⟩ (.slice none 0 0)).setCell ⟨w.heap.size, 4, none⟩ (.slice (some ⟨wr.heap.size, 0, none⟩) 1 1)) = u := ⟨_, rfl⟩
        have HDZ := Lib.hid (HDN.out wz hwz)
        rw [hwz]
        clear hwz HDN
        go_wp2_with fail
        go_roundw
        case rel => exact ⟨i + 1, hlt, by go_num, ret_sv (by rw [← HS.out]; exact HSTR.out), HDZ⟩
        case measure => simp [RowKit.intOf]; omega
    · obtain rfl : i = K := by omega
      have d1 : decide ((i : Int) < (i : Int)) = false := decide_eq_false (Int.lt_irrefl _)
      have d2 : decide (i < i) = false := decide_eq_false (Nat.lt_irrefl _)
      have d3 : decide ((i : Int) < 1 + (i : Int) - 1) = false := decide_eq_false (by omega)
      clear x0 x1 x2 x3 x4 f0 f1 f2 f3 f4 hrow hfl hbel HD
      obtain ⟨E, hE⟩ : ∃ E, errP (Mt.parseF (Mt.nestT i)) = E := ⟨_, rfl⟩
      have hpn := Mt.parse_nest (j := i) (by omega)
      have hEv : E = if i < 64 then 0 else 6 := by rw [← hE, hpn]; split <;> rfl
      have HCE : Hid (Mt.errE (Mt.chkF 64 0 (Mt.nestF i)) = E) := Lib.hid (by rw [Mt.chk_nest i 64 0 (by omega), hEv]; split <;> rfl)
      obtain ⟨z6, hz6⟩ : ∃ z, decide (64 ≤ i) = z := ⟨_, rfl⟩
      have b1 : ((E : Int) == 6) = z6 := by rw [← hz6, hEv, Bool.eq_iff_iff]; split <;> simp <;> omega
      have b2 : ((E : Int) == 0) = !z6 := by rw [← hz6, hEv, Bool.eq_iff_iff]; split <;> simp <;> omega
      have b3 : decide ((64 : Int) < 1 + (i : Int)) = z6 := by rw [← hz6, decide_eq_decide]; omega
      have b4 : decide (1 + (i : Int) ≤ 64) = !z6 := by rw [← hz6, Bool.eq_iff_iff]; simp; omega
      have HPA : Hid (∀ u, Calls Tryd.prog 9 #[.string (Mt.str (Mt.nestT i))] u fun e w' => Below u.heap.size u w' ∧ ∃ (k : Int) (s1 s2 : ByteArray) (a1 : Option Addr) (n1 c1 : Nat) (a2 : Option Addr) (n2 c2 : Nat), e = .returned (.tuple #[.agg #[.int .i64 k, .string s1, .string s2, .slice a1 n1 c1, .slice a2 n2 c2], .int .i64 (E : Int)])) := Lib.hid (fun u => by
        refine (Parse10_any (Mt.str (Mt.nestT i)) u).mono ?_
        intro e w' h
        have := parsP_form h
        rw [Mt.str_data, hE] at this
        exact this)
      clear hE hpn hEv hz6
      go_wp2_with fail
      refine (HPA.out _).mono ?_
      rintro e w2 ⟨hb2, k9, s8, s9, a8, n8, c8, a9, n9, c9, rfl⟩
      have HB2 := Lib.hid hb2
      clear hb2
      go_upto_region 11 with fail
      have hb3 := (Below.refl w2.heap.size w2).alloc (Nat.le_refl _) (.cells #[.int .i64 k9, .string s8, .string s9, .slice a8 n8 c8, .slice a9 n9 c9] 25)
      generalize w2.alloc (.cells #[.int .i64 k9, .string s8, .string s9, .slice a8 n8 c8, .slice a9 n9 c9] 25) = w3 at *
      have HB3 := Lib.hid (HB2.out.trans (hb3.mono HB2.out.size))
      have HR3 := Lib.hid ((HB3.out.block _ (lt_of_block HROW.out)).trans HROW.out)
      have HF3 := Lib.hid (HFL.out.below HB3.out)
      clear hb3
      obtain ⟨⟨x0, x1, x2, x3, x4⟩, f0, f1, f2, f3, f4⟩ := box5F HR3.out
      have HCK := Lib.hid (Check10_any _ _ w3 _ _ HF3.out)
      rw [HCE.out] at HCK
      go_wp2_with fail
      refine (HCK.out).mono ?_
      rintro e w4 ⟨rfl, hb4⟩
      have HB4 : Hid (Below w.heap.size w w4) := Lib.hid (HBEL.out.trans ((HB3.out.trans (hb4.mono HB3.out.size)).mono HBEL.out.size))
      clear hb4 x0 x1 x2 x3 x4 f0 f1 f2 f3 f4
      clear b1 b2 b3 b4 HCK HPA HCE HR3 HF3 HROW HFL
      go_upto_region 15 with fail
      have HW0 := Lib.hid (wide_start HB4.out)
      have hbb4 := HB4.out.size
      obtain ⟨w5, hw5⟩ : ∃ u, w4.alloc (.cells #[.int .i64 1, .string ⟨#[]⟩, .string ⟨#[]⟩, .slice none 0 0, .slice none 0 0] 25) = u := ⟨_, rfl⟩
      rw [hw5] at HW0 ⊢
      generalize w4.heap.size = bw at *
      obtain ⟨base, hbase⟩ : ∃ x, bw + 1 = x := ⟨_, rfl⟩
      rw [hbase] at HW0
      clear hw5 hMe' hbase
      obtain ⟨N, hN⟩ : ∃ N : Nat, 990 + M = N := ⟨_, rfl⟩
      have hNi : (990 : Int) + (M : Int) = (N : Int) := by omega
      have hN9 : N ≤ 1009 := by omega
      have HNI := Lib.hid hNi
      clear hNi hN
      go_upto_region 16 with fail
      rw [HNI.out]
      go_wp2_with fail
      go_loopw [13, 74] (fun sv iv wr => ∃ j : Nat, j ≤ N ∧ iv = .int .i64 (j : Int) ∧ sv = .string (Mt.str (Mt.wideT j)) ∧ Hid (WideS w bw base j wr)) (fun _ iv _ => N - (RowKit.intOf iv).toNat)
      case atStart => exact ⟨0, Nat.zero_le _, rfl, rfl, HW0⟩
      case round =>
        obtain ⟨j, hj, rfl, rfl, HW⟩ := hrel
        have HSZ2 := Lib.hid (Mt.str_size (Mt.wideT j))
        have HNL2 : Hid ((Mt.wideT j).length = 2 + 3 * j) := Lib.hid (by simp [Mt.wideT, Mt.wideK_length]; omega)
        have hss2 : (Mt.str (Mt.wideT j)).size ≤ 4000 := by rw [HSZ2.out, HNL2.out]; omega
        by_cases hlt2 : j < N
        · have d1 : decide ((j : Int) < (N : Int)) = true := decide_eq_true (Int.ofNat_lt.2 hlt2)
          have d2 : decide (j < N) = true := decide_eq_true hlt2
          obtain ⟨a7, c7, hrow7, a', c', w6, hrun, hrow6, hws⟩ := wide_step HW.out (by omega)
          have HWS := Lib.hid hws
          have HSTR2 := Lib.hid (wide_str j)
          obtain ⟨⟨-, -, -, -, y4⟩, -⟩ := box5F hrow7
          obtain ⟨⟨q0, q1, q2, q3, q4⟩, v0, v1, v2, v3, v4⟩ := box5F hrow6
          obtain ⟨S, hS⟩ : ∃ S, Mt.str (Mt.wideT j) = S := ⟨_, rfl⟩
          have HS := Lib.hid hS
          rw [hS] at hss2 ⊢
          clear hws hrow7 hrow6 hS
          go_wp2_with (refine wpList_append_run rfl _ _ 23 23 rfl _ _ rfl rfl hrun ?_)
          go_wp2_with fail
          go_roundw
          case rel => exact ⟨j + 1, hlt2, by go_num, ret_sv (by rw [← HS.out]; exact HSTR2.out), HWS⟩
          case measure => simp [RowKit.intOf]; omega
        · obtain rfl : j = N := by omega
          have d1 : decide ((j : Int) < (j : Int)) = false := decide_eq_false (Int.lt_irrefl _)
          have d2 : decide (j < j) = false := decide_eq_false (Nat.lt_irrefl _)
          obtain ⟨a7, c7, hrow7, hfl7⟩ := wide_fl HW.out (by omega)
          have HB7 := Lib.hid HW.out.2.2.2.1
          have HROW7 := Lib.hid hrow7
          have HFL7 := Lib.hid hfl7
          have HSTR2 := Lib.hid (wide_end j)
          have hpw := Mt.parse_wide (n := j) (by omega)
          obtain ⟨E2, hE2⟩ : ∃ E2, errP (Mt.parseF (Mt.wideT j ++ [41])) = E2 := ⟨_, rfl⟩
          have hEv : E2 = if j + 1 ≤ 1000 then 0 else 9 := by rw [← hE2, hpw]; split <;> rfl
          have HCE2 : Hid (Mt.errE (Mt.chkF 64 0 (Mt.wideF j)) = E2) := Lib.hid (by rw [Mt.chk_wide, hEv])
          have HPA2 : Hid (∀ u, Calls Tryd.prog 9 #[.string (Mt.str (Mt.wideT j ++ [41]))] u fun e w' => Below u.heap.size u w' ∧ ∃ (k : Int) (s1 s2 : ByteArray) (a1 : Option Addr) (n1 c1 : Nat) (a2 : Option Addr) (n2 c2 : Nat), e = .returned (.tuple #[.agg #[.int .i64 k, .string s1, .string s2, .slice a1 n1 c1, .slice a2 n2 c2], .int .i64 (E2 : Int)])) := Lib.hid (fun u => by
            refine (Parse10_any (Mt.str (Mt.wideT j ++ [41])) u).mono ?_
            intro e w' h
            have := parsP_form h
            rw [Mt.str_data, hE2] at this
            exact this)
          have HEV := Lib.hid hEv
          clear hrow7 hfl7 hpw hE2 hEv
          have HAW := Lib.hid (fun u => awake10_any u)
          go_wp2_with fail
          rw [HSTR2.out]
          refine (HPA2.out _).mono ?_
          rintro e w8 ⟨hb8, k7, t8, t9, a6, n6, c6, a5, n5, c5, rfl⟩
          have HB8 := Lib.hid hb8
          clear hb8
          go_upto_region 22 with fail
          have hb9 := (Below.refl w8.heap.size w8).alloc (Nat.le_refl _) (.cells #[.int .i64 k7, .string t8, .string t9, .slice a6 n6 c6, .slice a5 n5 c5] 25)
          generalize w8.alloc (.cells #[.int .i64 k7, .string t8, .string t9, .slice a6 n6 c6, .slice a5 n5 c5] 25) = w9 at *
          have HB9 := Lib.hid (HB8.out.trans (hb9.mono HB8.out.size))
          clear hb9
          have HAFT : Hid (∀ u, Below w9.heap.size w9 u → u.heap[bw]? = some (.cells #[.int .i64 1, .string ⟨#[]⟩, .string ⟨#[]⟩, .slice none 0 0, .slice a7 j c7] 25) ∧ (Calls Tryd.prog 16 #[.agg #[.int .i64 1, .string ⟨#[]⟩, .string ⟨#[]⟩, .slice none 0 0, .slice a7 j c7]] u fun e w' => e = .returned (.int .i64 (E2 : Int)) ∧ Below u.heap.size u w') ∧ Below w.heap.size w u) := Lib.hid (fun u hu => by
            have h1 := HB9.out.trans (hu.mono HB9.out.size)
            refine ⟨(h1.block _ (lt_of_block HROW7.out)).trans HROW7.out, ?_, HB7.out.trans (h1.mono HB7.out.size)⟩
            have := Check10_any _ _ u _ _ (HFL7.out.below h1)
            rw [HCE2.out] at this; exact this)
          by_cases hj1 : (1000 : Int) < (j : Int) + 1
          · have hE9 : (E2 : Int) = 9 := by rw [HEV.out, if_neg (by omega)]; rfl
            have HE9 := Lib.hid hE9
            clear hE9
            go_wp2_with fail
            refine (HAW.out _).mono ?_
            rintro e w10 ⟨rfl, hb10⟩
            obtain ⟨hr10, hc10, hw10⟩ := HAFT.out _ hb10
            have HC10 := Lib.hid hc10
            have HW10 := Lib.hid hw10
            clear hc10 hw10 hb10
            obtain ⟨⟨q0, q1, q2, q3, q4⟩, -⟩ := box5F hr10
            clear hr10
            have b9 : ((E2 : Int) == 9) = true := by rw [HE9.out]; rfl
            go_wp2_with fail
            refine (HC10.out).mono ?_
            rintro e w11 ⟨rfl, hb11⟩
            have HF := Lib.hid (HW10.out.trans (hb11.mono HW10.out.size))
            clear hb11
            go_wp2_with fail
            go_ret
            exact ⟨rfl, HF.out⟩
          · have hE9 : (E2 : Int) = 0 := by rw [HEV.out, if_pos (by omega)]; rfl
            have HE9 := Lib.hid hE9
            clear hE9
            go_wp2_with fail
            refine (HAW.out _).mono ?_
            rintro e w10 ⟨rfl, hb10⟩
            obtain ⟨hr10, hc10, hw10⟩ := HAFT.out _ hb10
            have HC10 := Lib.hid hc10
            have HW10 := Lib.hid hw10
            clear hc10 hw10 hb10
            obtain ⟨⟨q0, q1, q2, q3, q4⟩, -⟩ := box5F hr10
            clear hr10
            have b9 : ((E2 : Int) == 0) = true := by rw [HE9.out]; rfl
            go_wp2_with fail
            refine (HC10.out).mono ?_
            rintro e w11 ⟨rfl, hb11⟩
            have HF := Lib.hid (HW10.out.trans (hb11.mono HW10.out.size))
            clear hb11
            go_wp2_with fail
            go_ret
            exact ⟨rfl, HF.out⟩

/-! The step from the walk to the row. -/
theorem own : ownKnob Tryd.prog.godebug = none := by kernel_rfl
theorem laidOut : laidOutB Tryd.prog = true := by kernel_rfl

set_option maxRecDepth 100000 in
theorem lifted (os : Os) (started : os.Started) (H : Type) (enc : TypeId × Value → H) :
    ReturnsInHanded {} Tryd.checked os 8 .any (fun w args => (Rows.filtDeepSpec.pre enc Tryd.prog Tryd.f8 [] false w args ∧ laidMetH Tryd.prog laidF w) ∧ sizedMet enc Tryd.prog Tryd.f8 (OpenSpec.ofChange Rows.filtDeepSpec) false w args)
      (Rows.filtDeepSpec.post enc Tryd.prog Tryd.f8 false true false false) := by
  refine rowF (s := Rows.filtDeepSpec) own started (by kernel_rfl) Tryd.func8
    (ChangeSpec.witness_shaped (enc := enc) (C := Tryd.checked) (os := os) (X := fun w _ => laidMetH Tryd.prog laidF w) false (World.laidAll Tryd.prog os laidF) #[.int .i64 0, .int .i64 0] 8 (World.laidAll_os _ _ _) (World.shaped_of_ZipB (by kernel_rfl) (by kernel_rfl)) (by kernel_rfl) (by kernel_rfl) (by kernel_rfl) (laidF_met os _)) ?_
  intro W base args ds gs before hval0 hW hsz0
  have hsz : (DataW.weightsEach Tryd.prog (Tryd.f8.params.toList ++ Rows.filtDeepSpec.plain.varTypes Tryd.prog) (ds ++ gs)).all (· ≤ reachBytes) = true := hsz0
  have hval : ∀ (j : Nat) t v, Tryd.f8.params[j]? = some t → args[j]? = some v → Value.okWide Tryd.prog W .any base t v := hval0
  have hW' := hW
  obtain ⟨p, q, hA0, hV, rfl, _, _⟩ := hW
  have hA : DataW.TrodAll enc Tryd.prog W 0 (fun _ => true) true Tryd.f8.params.toList args.toList ds p := hA0
  rw [Tryd.params8] at hA hval hsz
  obtain ⟨v0, vs0, d0, ds0, p0, q0, hargs, rfl, rfl, h0, r0⟩ := trodAll_cons hA
  obtain ⟨v1, vs1, d1, ds1, p1, q1, rfl, rfl, rfl, h1, r1⟩ := trodAll_cons r0
  obtain ⟨rfl, rfl, rfl⟩ := trodAll_nil r1
  obtain rfl : args = #[v0, v1] := by cases args; simp_all
  obtain ⟨rfl, rfl⟩ := trodVars_none hV
  obtain ⟨a0, rfl, rfl, rfl, w0⟩ := open_int Tryd.underlying3 (hval 0 3 v0 rfl rfl) h0
  obtain ⟨a1, rfl, rfl, rfl, w1⟩ := open_int Tryd.underlying3 (hval 1 3 v1 rfl rfl) h1
  clear hA0 hval0
  simp only [List.append_nil] at hW'
  refine (walk a0 a1 w0 w1 W ).mono fun e W' ⟨he, bel⟩ => ?_
  subst he
  exact ⟨_, rfl, _, _, _, [], _, [], hW', trodAll_mk1 (shut_bool Tryd.underlying4 _), (trodAll_cons_mk (shut_int Tryd.underlying3 w0) (trodAll_cons_mk (shut_int Tryd.underlying3 w1) trodAll_mk0)), rfl, bel.frame _, fun h => by cases h⟩

theorem proved : Rows.FiltDeepSaid :=
  OpenClaim.holds_of_wide 8 Tryd.f8 rfl rfl rfl rfl rfl rfl rfl ⟨rfl, rfl, rfl, rfl, rfl⟩ rfl rfl rfl rfl rfl (by kernel_rfl) Tryd.func8 (by kernel_rfl)
    (of_decide_eq_true (by kernel_rfl)) (by unfold Func.isWrapper; first | (rw [if_pos (by decide +kernel)]; kernel_rfl) | (rw [if_neg (by decide +kernel)]; exact ⟨rfl, rfl⟩))
    (fun os started H enc _ => lifted os started H enc)

/-- THE CARD: the row, its two listed variables tied to the program's text (the ties are given). -/
theorem card : Rows.FiltDeepCardSaid :=
  Claim7.holds_tied_plain_at .later [] [.data, .pinned] true Rows.filtDeepCard.stood.harness Rows.filtDeepCard.stood.looks
    proved (fun _ h => by cases h) (by kernel_rfl) (fun _ h => by cases h) filtDeep_row_tie rfl ⟨rfl, rfl⟩ (by kernel_rfl) rfl
    (fun f fn hf hfn => by
      obtain rfl : f = 8 := Option.some.inj ((show Tryd.prog.funcNamed "castellan/castellanlaw10.FiltDeep" = some 8 by kernel_rfl).symm.trans hf) |>.symm
      obtain rfl : fn = Tryd.f8 := (Option.some.inj (Tryd.func8.symm.trans hfn)).symm
      exact ⟨by kernel_rfl, fun j t ht => by
        rw [Tryd.params8] at ht
        have hm : t ∈ [3, 3] := by simpa using Array.mem_of_getElem? ht
        have hall : ([3, 3].all fun u => !Tryd.prog.wantsStandIn u) = true := by kernel_rfl
        exact (show Tryd.prog.wantsStandIn t = false by simpa using List.all_eq_true.1 hall t hm)⟩)
    (by kernel_rfl)

#print axioms proved
end Go.Proofs.YtnlbhmjgeedgpaaDoor.filtDeep
