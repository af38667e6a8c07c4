/-
  Some texts of one proof, one behind the other.
-/
import Derived.Deep.RegionLaw
import Derived.Deep.AppendLies
import Derived.Deep.RegionWith
import Derived.Lib.Hide
import Derived.Deep.LoopGhost
import Derived.Test.YtngdbhncafnliaaGreatPk0
set_option linter.unusedVariables false
set_option linter.unusedSimpArgs false

/-
  Rules of append and of string(b) that the walks of bytes lean on; the sixteen digits.
-/
namespace Go.Proofs.YtngdbhncafnliaaGreat
open Go.RowKit

/-- 'append' within the capacity, as a step of a region that draws its order. -/
theorem step_append_fits {P : Program} {ops : Array Oper} {o : Oper} {a : Act} {w : World} {K : Act → World → Prop} {Q : Exit → Act → World → Prop} {E : Prop}
    (hg : o.guard = none) (s x : Operand) (t : TypeId) (hop : o.op = Op.call { callee := Callee.builtin Builtin.append, args := #[s, x], argTypes := #[t, t] })
    (base : Nat) (e : TypeId) (i : TypeInfo) (size : Nat) (h1 : P.underlying t = some (.slice e)) (h2 : P.info? e = some i) (h4 : i.size = size)
    (g k cap : Nat) (xs : List Value) (hs : a.eval s = .slice (some ⟨g, 0, none⟩) k cap) (hown : w.ownsRow base e size (.slice (some ⟨g, 0, none⟩) k cap) k xs) (ad : Addr) (m c : Nat) (news : List Value) (hx : a.eval x = .slice (some ad) m c) (hn : news.length = m * size)
    (hc : ∀ j u, news[j]? = some u → w.cell? (ad.add j) = some u) (h1c : ∀ u ∈ news, u.oneCell' = true) (b1 : k + m ≤ cap)
    (hK : ∀ w', w'.ownsRow base e size (.slice (some ⟨g, 0, none⟩) (k + m) cap) (k + m) (xs ++ news) → w.grownBy w' (some g) → K (a.put o.dst (.slice (some ⟨g, 0, none⟩) (k + m) cap)) w') :
    if Region.wanted o (yielded ops a.tmps) = true then Oper.wp P o a w K Q else E := by
  have hw : Region.wanted o (yielded ops a.tmps) = true := by simp [Region.wanted, hg]
  rw [if_pos hw]
  obtain ⟨w', hrun, r1, r2⟩ := run_append_fits (P := P) w base t o.type e i size h1 h2 h4 g k cap xs hown ad m c news hn hc h1c b1
  unfold Oper.wp
  simp [execOp, hop, resolve, invoke, builtin, hs, hx, hrun, Result.andThen]
  exact hK w' r1 r2

/-- The sixteen digits, as the program's text has them. -/
theorem digit_at (x : Int) (h0 : 0 ≤ x) (h1 : x < 16) : ∃ d : UInt8, (∀ h, (⟨#[48, 49, 50, 51, 52, 53, 54, 55, 56, 57, 97, 98, 99, 100, 101, 102]⟩ : ByteArray)[x.toNat]'h = d) ∧ (d.toNat : Int) = Mt.dg x.toNat := by
  have hx : x.toNat < 16 := by omega
  generalize x.toNat = m at hx ⊢
  have h : m < (⟨#[48, 49, 50, 51, 52, 53, 54, 55, 56, 57, 97, 98, 99, 100, 101, 102]⟩ : ByteArray).size := hx
  refine ⟨(⟨#[48, 49, 50, 51, 52, 53, 54, 55, 56, 57, 97, 98, 99, 100, 101, 102]⟩ : ByteArray)[m]'h, fun _ => rfl, ?_⟩
  match m, hx, h with
  | 0, _, _ => rfl | 1, _, _ => rfl | 2, _, _ => rfl | 3, _, _ => rfl | 4, _, _ => rfl | 5, _, _ => rfl | 6, _, _ => rfl | 7, _, _ => rfl
  | 8, _, _ => rfl | 9, _, _ => rfl | 10, _, _ => rfl | 11, _, _ => rfl | 12, _, _ => rfl | 13, _, _ => rfl | 14, _, _ => rfl | 15, _, _ => rfl
  | m + 16, hx, _ => omega

/-- string(b) of a slice of the call's own. -/
theorem conv_row (l : List UInt8) (B g n cap : Nat) (w : World) (hl : l.length = n) (hown : w.ownsRow B 5 1 (.slice (some ⟨g, 0, none⟩) n cap) n (Mt.cs l)) :
    (convert 114 9 (.slice (some ⟨g, 0, none⟩) n cap)).run Tryz.prog w = .ok (.string (Mt.str l)) w := by
  rw [← Mt.str_nums]
  exact run_convert_bytes_arg (P := Tryz.prog) w 114 5 Tryz.underlying114 Tryz.underlying5 g 0 n cap (l.map fun c => (c.toNat : Int)) (by simpa using hl) (fun i hi => by
    rw [Nat.zero_add, hown.cellAt _ (by omega)]
    simp [Mt.cs, List.getD, List.getElem?_eq_getElem (show i < l.length by omega)]) 9 Tryz.underlying9

/-- string(b[:m]) of a slice of the call's own. -/
theorem conv_take (l : List UInt8) (B g n cap : Nat) (w : World) (hl : l.length = n) (hown : w.ownsRow B 5 1 (.slice (some ⟨g, 0, none⟩) n cap) n (Mt.cs l)) (m : Nat) (hm : m ≤ n) :
    (convert 114 9 (.slice (some ⟨g, 0, none⟩) m cap)).run Tryz.prog w = .ok (.string (Mt.str (l.take m))) w := by
  rw [← Mt.str_nums]
  exact run_convert_bytes_arg (P := Tryz.prog) w 114 5 Tryz.underlying114 Tryz.underlying5 g 0 m cap ((l.take m).map fun c => (c.toNat : Int)) (by simp; omega) (fun i hi => by
    rw [Nat.zero_add, hown.cellAt _ (by omega)]
    simp [Mt.cs, List.getD, List.getElem?_eq_getElem (show i < l.length by omega), hi]) 9 Tryz.underlying9

end Go.Proofs.YtngdbhncafnliaaGreat

/-
  What the calls octet.small, endsBlank, Fold and Prep come to, at every text.
-/
namespace Go.Proofs.YtngdbhncafnliaaGreat
open Go.RowKit

theorem small_any (c : UInt8) (w : World) : Calls Tryz.prog 64 #[.int .u8 c.toNat] w fun e w' => e = .returned (.int .u8 (Mt.sm c).toNat) ∧ w = w' := by
  have hs := Mt.sm_toNat c
  unfold Mt.smN at hs
  have hlt := c.toNat_lt
  generalize (Mt.sm c).toNat = m at hs
  generalize c.toNat = n at hs hlt
  by_cases h : 65 ≤ n ∧ n ≤ 90
  · rw [if_pos h] at hs
    have HS := Lib.hid hs
    clear hs
    have h1 : (65 : Int) ≤ (n : Int) := by omega
    have h2 : (n : Int) ≤ 90 := by omega
    go_enter Tryz.func64, Tryz.ntmps64
    go_wp2
    go_ret
    exact ⟨Mt.ret_int (by rw [HS.out]; omega), rfl⟩
  · rw [if_neg h] at hs
    have HS := Lib.hid hs
    clear hs
    by_cases h1 : 65 ≤ n
    · have h2 : decide ((n : Int) ≤ 90) = false := by simp; omega
      have h1 : (65 : Int) ≤ (n : Int) := by omega
      clear h
      go_enter Tryz.func64, Tryz.ntmps64
      go_wp2
      go_ret
      exact ⟨Mt.ret_int (by rw [HS.out]), rfl⟩
    · have h2 : decide ((65 : Int) ≤ (n : Int)) = false := by simp; omega
      clear h
      go_enter Tryz.func64, Tryz.ntmps64
      go_wp2
      go_ret
      exact ⟨Mt.ret_int (by rw [HS.out]), rfl⟩

theorem ends_nil (cap : Nat) (a : Option Addr) (w : World) : Calls Tryz.prog 77 #[.slice a 0 cap] w fun e w' => e = .returned (.bool true) ∧ w = w' := by
  go_enter Tryz.func77, Tryz.ntmps77
  go_wp2
  go_ret
  exact ⟨rfl, rfl⟩

theorem ends_some (g n cap : Nat) (x : Int) (b : Bool) (w : World) (hn : n < 140737488351233) (hc : w.cell? ⟨g, n, none⟩ = some (.int .u8 x)) (hb : (x == 32) = b) :
    Calls Tryz.prog 77 #[.slice (some ⟨g, 0, none⟩) (n + 1) cap] w fun e w' => e = .returned (.bool b) ∧ w = w' := by
  have h0 : ((n : Int) + 1 == 0) = false := by simp; omega
  go_enter Tryz.func77, Tryz.ntmps77
  go_wp2
  go_ret
  exact ⟨rfl, rfl⟩

/-- Whether a slice of the call's own ends with a blank, or holds nothing. -/
theorem ends_row (o : List UInt8) (B g cap : Nat) (w : World) (hn : o.length ≤ 140737488351232) (hown : w.ownsRow B 5 1 (.slice (some ⟨g, 0, none⟩) o.length cap) o.length (Mt.cs o)) :
    Calls Tryz.prog 77 #[.slice (some ⟨g, 0, none⟩) o.length cap] w fun e w' => e = .returned (.bool (Mt.endB o)) ∧ w = w' := by
  rcases List.eq_nil_or_concat o with rfl | ⟨l, c, rfl⟩
  · exact ends_nil cap _ w
  · rw [List.concat_eq_append] at hown hn ⊢
    have hc : w.cell? ⟨g, l.length, none⟩ = some (.int .u8 c.toNat) := by
      rw [hown.cellAt _ (by simp)]
      simp [Mt.cs]
    have hb : ((c.toNat : Int) == 32) = Mt.endB (l ++ [c]) := by
      rw [Bool.eq_iff_iff]
      simp [Mt.endB, Mt.eq32]
      omega
    simp only [List.length_append, List.length_singleton] at hn ⊢
    exact ends_some g l.length cap c.toNat _ w (by omega) hc hb

set_option maxHeartbeats 400000 in
theorem fold_any (s : ByteArray) (w : World) (hs : s.size ≤ 140737488351232) :
    Calls Tryz.prog 41 #[.string s] w fun e w' => e = .returned (.string (Mt.str (s.data.toList.map Mt.sm))) ∧ Below w.heap.size w w' := by
  obtain ⟨i0, hi, hz0, hz1, hz2⟩ := info_parts Tryz.info5
  go_enter Tryz.func41, Tryz.ntmps41
  go_wp2_with (at_make; refine wpList_make_full _ rfl _ _ 114 rfl w.heap.size 5 i0 (.int .u8 0) 1 Tryz.underlying114 hi hz0 hz1 .i64 .i64 _ _ s.size rfl rfl rfl rfl (by rw [hz2]; omega) (by unfold maxLen; omega) (Nat.le_refl _) ?_; intro w1 hown hgr)
  have hb1 : Hid (Below w.heap.size w w1) := (Below.refl _ _).grown hgr (Nat.le_refl _) (fun k hk => by cases hk)
  have hown1 : w1.ownsRow w.heap.size 5 1 (.slice (some ⟨w.heap.size, 0, none⟩) s.size s.size) s.size (Mt.cs ((s.data.toList.map Mt.sm).take 0 ++ List.replicate (s.size - 0) 0)) := by
    have e : Mt.cs ((s.data.toList.map Mt.sm).take 0 ++ List.replicate (s.size - 0) 0) = List.replicate s.size (Value.int .u8 0) := by simp [Mt.cs]
    rw [e]; simpa [toList_madeCells_one, Value.cells] using hown
  clear hown hgr hi hz0 hz1 hz2
  go_loopw [10] (fun i wr => ∃ k : Nat, k ≤ s.size ∧ i = .int .i64 k ∧ wr.ownsRow w.heap.size 5 1 (.slice (some ⟨w.heap.size, 0, none⟩) s.size s.size) s.size (Mt.cs ((s.data.toList.map Mt.sm).take k ++ List.replicate (s.size - k) 0)) ∧ Hid (Below w.heap.size w wr))
    (fun i _ => s.size - (intOf i).toNat)
  case atStart => exact ⟨0, Nat.zero_le _, rfl, hown1, hb1⟩
  case round =>
    obtain ⟨k, hk, rfl, hown, HB⟩ := hrel
    by_cases hlt : k < s.size
    · obtain ⟨c, hc⟩ : ∃ c, s[k] = c := ⟨_, rfl⟩
      have hcell : wr.cell? ⟨w.heap.size, k, none⟩ = some (.int .u8 0) := by
        rw [hown.cellAt _ (by omega), Mt.fold_cell s k hlt]
      have hfz := hown.frozenAt k
      go_wp2_with (go_at_call 64; refine (small_any _ _).mono ?_; rintro e w' ⟨rfl, rfl⟩)
      go_roundw
      case rel =>
        refine ⟨k + 1, by omega, by go_num, ?_, Below.setCell HB.out (Nat.le_refl _) _⟩
        have := (hown.stored k (.int .u8 (Mt.sm c).toNat)).1
        rw [← hc] at this ⊢
        rwa [Mt.fold_set s k hlt] at this
      case measure => simp [intOf]; omega
    · obtain rfl : k = s.size := by omega
      have e : (s.data.toList.map Mt.sm).take s.size ++ List.replicate (s.size - s.size) 0 = s.data.toList.map Mt.sm := by
        rw [Nat.sub_self, List.replicate_zero, List.append_nil, List.take_of_length_le (by simp)]
      rw [e] at hown
      clear e
      have hcv := conv_row (s.data.toList.map Mt.sm) w.heap.size w.heap.size s.size s.size wr (by simp) hown
      go_wp2
      go_ret
      exact ⟨rfl, HB.out⟩

end Go.Proofs.YtngdbhncafnliaaGreat

/-
  What the document's digit comes to; string(b) of a slice of the call's own.
-/
namespace Go.Proofs.YtngdbhncafnliaaGreat
open Go.RowKit

/-- string(b) of whatever slice of the call's own. -/
theorem conv_own (l : List Int) (B n : Nat) (v : Value) (w : World) (hown : w.ownsRow B 5 1 v n (l.map (Value.int .u8))) :
    (convert 114 9 v).run Tryz.prog w = .ok (.string (strOfNums l)) w := by
  have hl : l.length = n := by have := hown.1; simpa using this
  rcases hown.2 with ⟨rfl, rfl⟩ | ⟨g, cap, cur, rfl, _⟩
  · have : l = [] := List.eq_nil_of_length_eq_zero hl
    subst this
    exact run_convert_bytes_nil (P := Tryz.prog) w 114 5 Tryz.underlying114 Tryz.underlying5 0 0 9 Tryz.underlying9
  · exact run_convert_bytes_arg (P := Tryz.prog) w 114 5 Tryz.underlying114 Tryz.underlying5 g 0 n cap l hl (fun i hi => by
      rw [Nat.zero_add, hown.cellAt _ (by omega)]
      simp [List.getD, List.getElem?_eq_getElem (show i < l.length by omega)]) 9 Tryz.underlying9

theorem rdigit_any (n : Int) (w : World) (h0 : 0 ≤ n) (h : n < 16) : Calls Tryz.prog 82 #[.int .u8 n] w fun e w' => e = .returned (.int .u8 (Mt.dg n.toNat)) ∧ w = w' := by
  by_cases h10 : n < 10
  · have HD := Lib.hid (show Mt.dg n.toNat = 48 + n by unfold Mt.dg; rw [if_pos (by omega)]; omega)
    go_enter Tryz.func82, Tryz.ntmps82
    go_wp2
    go_ret
    exact ⟨Mt.ret_int (by rw [HD.out]), rfl⟩
  · have HD := Lib.hid (show Mt.dg n.toNat = 97 + n - 10 by unfold Mt.dg; rw [if_neg (by omega)]; omega)
    go_enter Tryz.func82, Tryz.ntmps82
    go_wp2
    go_ret
    exact ⟨Mt.ret_int (by rw [HD.out]), rfl⟩

end Go.Proofs.YtngdbhncafnliaaGreat

/-
  What the document's Fold comes to.
-/
namespace Go.Proofs.YtngdbhncafnliaaGreat
open Go.RowKit

/-- string(b) of whatever slice of the call's own, bytes. -/
theorem conv_ownb (l : List UInt8) (B n : Nat) (v : Value) (w : World) (hown : w.ownsRow B 5 1 v n (Mt.cs l)) :
    (convert 114 9 v).run Tryz.prog w = .ok (.string (Mt.str l)) w := by
  have h := conv_own (l.map fun c => (c.toNat : Int)) B n v w (by simpa [Mt.cs, Function.comp_def] using hown)
  rwa [Mt.str_nums] at h

set_option maxHeartbeats 800000 in
set_option maxRecDepth 100000 in
theorem rfold_any (s : ByteArray) (w : World) (hs : s.size ≤ 140737488351232) :
    Calls Tryz.prog 46 #[.string s] w fun e w' => e = .returned (.string (Mt.str (s.data.toList.map Mt.sm))) ∧ Below w.heap.size w w' := by
  obtain ⟨i0, hi, hz0, hz1, hz2⟩ := info_parts Tryz.info5
  go_enter Tryz.func46, Tryz.ntmps46
  go_wp2
  go_loopw [3, 4] (fun v i wr => ∃ k : Nat, k ≤ s.size ∧ i = .int .i64 k ∧ wr.ownsRow w.heap.size 5 1 v k (Mt.cs ((s.data.toList.take k).map Mt.sm)) ∧ Hid (Below w.heap.size w wr))
    (fun _ i _ => s.size - (intOf i).toNat)
  case atStart => exact ⟨0, Nat.zero_le _, rfl, World.ownsRow_nil _ _ _ _, Below.refl _ _⟩
  case round =>
    obtain ⟨k, hk, rfl, hown, HB⟩ := hrel
    by_cases hlt : k < s.size
    · obtain ⟨c, hc⟩ : ∃ c, s[k] = c := ⟨_, rfl⟩
      have HE := Lib.hid (show Mt.cs ((s.data.toList.take (k + 1)).map Mt.sm) = Mt.cs ((s.data.toList.take k).map Mt.sm) ++ [.int .u8 (Mt.sm c).toNat] by
        rw [Mt.take_snoc s k hlt, hc, List.map_append, Mt.cs_append]; rfl)
      have hsm := Mt.sm_toNat c
      unfold Mt.smN at hsm
      have hsz := HB.out.size
      have hc256 : (c.toNat : Int) < 256 := by have := c.toNat_lt; omega
      have hle : ∀ (x : Int), Hid (x = ((Mt.sm c).toNat : Int)) → Hid (Mt.cs ((s.data.toList.take (k + 1)).map Mt.sm) = Mt.cs ((s.data.toList.take k).map Mt.sm) ++ [.int .u8 x]) := fun x hx => by
        have e : x = ((Mt.sm c).toNat : Int) := hx.out
        subst e; exact HE.out
      by_cases h : 65 ≤ c.toNat ∧ c.toNat ≤ 90
      · rw [if_pos h] at hsm
        have HX := hle ((c.toNat : Int) - 65 + 97) (Lib.hid (by omega))
        have h1 : (65 : Int) ≤ (c.toNat : Int) := by omega
        have h2 : (c.toNat : Int) ≤ 90 := by omega
        clear hsm hle h
        go_wp2_with (at_builtin; refine wpList_append_own _ rfl _ _ 114 rfl w.heap.size 5 i0 (.int .u8 0) 1 1 Tryz.underlying114 hi hz0 hz1 hz2 rfl (by decide) _ _ _ rfl (hown.alloc _) ⟨wr.heap.size, 0, none⟩ 1 1 [.int .u8 ((c.toNat : Int) - 65 + 97)] rfl rfl (cell_one_new _ _ _) (by simp [Value.oneCell']) (by unfold maxLen; omega) (by omega) (by simp; omega) ?_; intro v1 w1 hown1 hgr1 _)
        have HB1 : Hid (Below w.heap.size w w1) := (HB.out.alloc hsz _).grown hgr1 (by simp; omega) (fun j hj => (hown.lt j hj).1)
        go_roundw
        case rel => exact ⟨k + 1, by omega, by go_num, by rw [HX.out]; exact hown1, HB1⟩
        case measure => simp [intOf]; omega
      · rw [if_neg h] at hsm
        have HX := hle (c.toNat : Int) (Lib.hid (by omega))
        by_cases h1 : 65 ≤ c.toNat
        · have h2 : decide ((c.toNat : Int) ≤ 90) = false := by simp; omega
          have h1 : (65 : Int) ≤ (c.toNat : Int) := by omega
          clear hsm hle h
          go_wp2_with (at_builtin; refine wpList_append_own _ rfl _ _ 114 rfl w.heap.size 5 i0 (.int .u8 0) 1 1 Tryz.underlying114 hi hz0 hz1 hz2 rfl (by decide) _ _ _ rfl (hown.alloc _) ⟨wr.heap.size, 0, none⟩ 1 1 [.int .u8 (c.toNat : Int)] rfl rfl (cell_one_new _ _ _) (by simp [Value.oneCell']) (by unfold maxLen; omega) (by omega) (by simp; omega) ?_; intro v1 w1 hown1 hgr1 _)
          have HB1 : Hid (Below w.heap.size w w1) := (HB.out.alloc hsz _).grown hgr1 (by simp; omega) (fun j hj => (hown.lt j hj).1)
          go_roundw
          case rel => exact ⟨k + 1, by omega, by go_num, by rw [HX.out]; exact hown1, HB1⟩
          case measure => simp [intOf]; omega
        · have h2 : decide ((65 : Int) ≤ (c.toNat : Int)) = false := by simp; omega
          clear hsm hle h
          go_wp2_with (at_builtin; refine wpList_append_own _ rfl _ _ 114 rfl w.heap.size 5 i0 (.int .u8 0) 1 1 Tryz.underlying114 hi hz0 hz1 hz2 rfl (by decide) _ _ _ rfl (hown.alloc _) ⟨wr.heap.size, 0, none⟩ 1 1 [.int .u8 (c.toNat : Int)] rfl rfl (cell_one_new _ _ _) (by simp [Value.oneCell']) (by unfold maxLen; omega) (by omega) (by simp; omega) ?_; intro v1 w1 hown1 hgr1 _)
          have HB1 : Hid (Below w.heap.size w w1) := (HB.out.alloc hsz _).grown hgr1 (by simp; omega) (fun j hj => (hown.lt j hj).1)
          go_roundw
          case rel => exact ⟨k + 1, by omega, by go_num, by rw [HX.out]; exact hown1, HB1⟩
          case measure => simp [intOf]; omega
    · obtain rfl : k = s.size := by omega
      have ht : s.data.toList.take s.size = s.data.toList := List.take_of_length_le (Nat.le_refl _)
      rw [ht] at hown
      clear ht
      have hcv := conv_ownb (s.data.toList.map Mt.sm) w.heap.size _ _ wr hown
      go_wp2
      go_ret
      exact ⟨rfl, HB.out⟩

end Go.Proofs.YtngdbhncafnliaaGreat

/-
  What the call octet.Prep comes to, at every text.
-/
namespace Go.Proofs.YtngdbhncafnliaaGreat
open Go.RowKit

set_option maxHeartbeats 800000 in
theorem prep_any (s : ByteArray) (w : World) (hs : s.size ≤ 140737488351232) :
    Calls Tryz.prog 60 #[.string s] w fun e w' => e = .returned (.string (Mt.str (Mt.prep s.data.toList))) ∧ Below w.heap.size w w' := by
  obtain ⟨i0, hi, hz0, hz1, hz2⟩ := info_parts Tryz.info5
  go_enter Tryz.func60, Tryz.ntmps60
  go_wp2_with (at_make; refine wpList_make_own _ rfl _ _ 114 rfl w.heap.size 5 i0 (.int .u8 0) 1 Tryz.underlying114 hi hz0 hz1 .i64 .i64 _ s.size rfl rfl (by omega) (by rw [hz2]; omega) (by unfold maxLen; omega) (Nat.le_refl _) ?_; intro w1 hown hgr)
  have hb1 : Hid (Below w.heap.size w w1) := (Below.refl _ _).grown hgr (Nat.le_refl _) (fun k hk => by cases hk)
  clear hgr
  go_loopw [3, 10] (fun v i wr => ∃ k : Nat, k ≤ s.size ∧ i = .int .i64 k ∧ v = .slice (some ⟨w.heap.size, 0, none⟩) (Mt.run (s.data.toList.take k)).length s.size ∧ wr.ownsRow w.heap.size 5 1 (.slice (some ⟨w.heap.size, 0, none⟩) (Mt.run (s.data.toList.take k)).length s.size) (Mt.run (s.data.toList.take k)).length (Mt.cs (Mt.run (s.data.toList.take k))) ∧ Hid (Below w.heap.size w wr))
    (fun _ i _ => s.size - (intOf i).toNat)
  case atStart => exact ⟨0, Nat.zero_le _, rfl, rfl, hown, hb1⟩
  case round =>
    obtain ⟨k, hk, rfl, rfl, hown, HB⟩ := hrel
    by_cases hlt : k < s.size
    · have hrl : (Mt.run (s.data.toList.take k)).length ≤ k := Nat.le_trans (Mt.run_length _) (List.length_take_le _ _)
      have HS := Lib.hid (show Mt.run (s.data.toList.take (k + 1)) = Mt.step (Mt.run (s.data.toList.take k)) s[k] by rw [Mt.take_snoc s k hlt, Mt.run_snoc])
      obtain ⟨o, ho⟩ : ∃ o, Mt.run (s.data.toList.take k) = o := ⟨_, rfl⟩
      rw [ho] at HS hown hrl ⊢
      clear ho
      obtain ⟨c, hc⟩ : ∃ c, s[k] = c := ⟨_, rfl⟩
      have HC := Lib.hid hc
      by_cases hskip : c = 32 ∧ Mt.endB o = true
      · have hc32 : ((c.toNat : Int) == 32) = true := by have := (Mt.eq32 c).1 hskip.1; rw [this]; rfl
        have he := hskip.2
        have HK := Lib.hid hskip
        clear hskip
        go_wp2_with (go_at_call 77; refine (ends_row o w.heap.size w.heap.size s.size _ (by omega) hown).mono ?_; rintro e w' ⟨rfl, rfl⟩)
        go_roundw
        case rel =>
          have e : Mt.run (s.data.toList.take (k + 1)) = o := by rw [HS.out, Mt.step, HC.out, if_pos HK.out]
          exact ⟨k + 1, by omega, by go_num, by rw [e], by rw [e]; exact hown, HB⟩
        case measure => simp [intOf]; omega
      · have HE := Lib.hid (show Mt.run (s.data.toList.take (k + 1)) = o ++ [Mt.sm c] by rw [HS.out, Mt.step, HC.out, if_neg hskip])
        by_cases h32 : c = 32
        · have hc32 : ((c.toNat : Int) == 32) = true := by have := (Mt.eq32 c).1 h32; rw [this]; rfl
          have he : Mt.endB o = false := by
            cases h : Mt.endB o with
            | false => rfl
            | true => exact absurd ⟨h32, h⟩ hskip
          clear hskip h32
          go_wp2_with (first | (go_at_call 77; refine (ends_row o w.heap.size w.heap.size s.size _ (by omega) hown).mono ?_; rintro e w' ⟨rfl, rfl⟩) | (go_at_call 64; refine (small_any _ _).mono ?_; rintro e w' ⟨rfl, rfl⟩) | (at_builtin; refine wpList_append_fits _ rfl _ _ 114 rfl w.heap.size 5 i0 1 Tryz.underlying114 hi hz1 w.heap.size o.length s.size _ rfl (hown.alloc _) ⟨wr.heap.size, 0, none⟩ 1 1 [.int .u8 (Mt.sm c).toNat] rfl rfl (cell_one_new _ _ _) (by simp [Value.oneCell']) (by omega) ?_; intro w2 hown2 hgr2))
          go_roundw
          case rel =>
            refine ⟨k + 1, by omega, by go_num, by rw [HE.out]; simp, ?_, (HB.out.alloc HB.out.size _).grown hgr2 (by have := HB.out.size; simp; omega) (fun j hj => by cases hj; exact Nat.le_refl _)⟩
            rw [HE.out, Mt.cs_append, List.length_append]
            exact hown2
          case measure => simp [intOf]; omega
        · have hc32 : ((c.toNat : Int) == 32) = false := by have := mt (Mt.eq32 c).2 h32; simp; omega
          clear hskip h32
          go_wp2_with (first | (go_at_call 64; refine (small_any _ _).mono ?_; rintro e w' ⟨rfl, rfl⟩) | (at_builtin; refine wpList_append_fits _ rfl _ _ 114 rfl w.heap.size 5 i0 1 Tryz.underlying114 hi hz1 w.heap.size o.length s.size _ rfl (hown.alloc _) ⟨wr.heap.size, 0, none⟩ 1 1 [.int .u8 (Mt.sm c).toNat] rfl rfl (cell_one_new _ _ _) (by simp [Value.oneCell']) (by omega) ?_; intro w2 hown2 hgr2))
          go_roundw
          case rel =>
            refine ⟨k + 1, by omega, by go_num, by rw [HE.out]; simp, ?_, (HB.out.alloc HB.out.size _).grown hgr2 (by have := HB.out.size; simp; omega) (fun j hj => by cases hj; exact Nat.le_refl _)⟩
            rw [HE.out, Mt.cs_append, List.length_append]
            exact hown2
          case measure => simp [intOf]; omega
    · obtain rfl : k = s.size := by omega
      have ht : s.data.toList.take s.size = s.data.toList := List.take_of_length_le (Nat.le_refl _)
      rw [ht] at hown ⊢
      clear ht
      have hrl : (Mt.run s.data.toList).length ≤ s.size := Mt.run_length _
      have HP := Lib.hid (show Mt.prep s.data.toList = if (Mt.run s.data.toList).getLast? = some 32 then (Mt.run s.data.toList).dropLast else Mt.run s.data.toList from rfl)
      obtain ⟨o, ho⟩ : ∃ o, Mt.run s.data.toList = o := ⟨_, rfl⟩
      rw [ho] at HP hown hrl ⊢
      clear ho
      rcases List.eq_nil_or_concat o with rfl | ⟨l, c, rfl⟩
      · have hcv := conv_row [] w.heap.size w.heap.size 0 s.size wr rfl hown
        go_wp2
        go_ret
        exact ⟨Mt.ret_str (by rw [HP.out]; rfl), HB.out⟩
      · rw [List.concat_eq_append] at HP hown hrl ⊢
        have hcv := conv_row (l ++ [c]) w.heap.size w.heap.size (l ++ [c]).length s.size wr rfl hown
        have hcv2 := conv_take (l ++ [c]) w.heap.size w.heap.size (l ++ [c]).length s.size wr rfl hown l.length (by simp)
        rw [List.take_left] at hcv2
        have HO := Lib.hid hown
        have HO2 := Lib.hid (show ((l ++ [c]).length : Nat) = l.length + 1 by simp)
        rw [HO2.out] at hcv hown hrl ⊢
        have he := fun wx h => ends_row (l ++ [c]) w.heap.size w.heap.size s.size wx (by rw [HO2.out]; omega) h
        rw [HO2.out] at he
        have HEN := Lib.hid he
        clear he
        have hl0 : (0 : Int) < (l.length : Int) + 1 := by omega
        cases hE : Mt.endB (l ++ [c]) with
        | true =>
          have HPP : Hid (Mt.prep s.data.toList = l) := by
            have h32 : c = 32 := by simpa [Mt.endB] using hE
            subst h32
            exact HP.out.trans (by simp)
          go_wp2_with (go_at_call 77; refine (HEN.out _ hown).mono ?_; rintro e w' ⟨rfl, rfl⟩)
          go_ret
          exact ⟨Mt.ret_str (by rw [HPP.out]), HB.out⟩
        | false =>
          have HPP : Hid (Mt.prep s.data.toList = l ++ [c]) := by
            have h32 : c ≠ 32 := by simpa [Mt.endB] using hE
            exact HP.out.trans (by simp [h32])
          go_wp2_with (go_at_call 77; refine (HEN.out _ hown).mono ?_; rintro e w' ⟨rfl, rfl⟩)
          go_ret
          exact ⟨Mt.ret_str (by rw [HPP.out]), HB.out⟩

end Go.Proofs.YtngdbhncafnliaaGreat

/-
  What the document's Prep comes to.
-/
namespace Go.Proofs.YtngdbhncafnliaaGreat
open Go.RowKit

theorem ownsRow_shape {w : World} {base : Nat} {e : TypeId} {size : Nat} {v : Value} {n : Nat} {xs : List Value} (h : w.ownsRow base e size v n xs) : ∃ a c, v = .slice a n c := by
  rcases h.2 with ⟨rfl, rfl⟩ | ⟨g, cap, _, rfl, _⟩
  · exact ⟨_, _, rfl⟩
  · exact ⟨_, _, rfl⟩

set_option maxHeartbeats 1600000 in
set_option maxRecDepth 100000 in
theorem rprep_any (s : ByteArray) (w : World) (hs : s.size ≤ 70368744177664) :
    Calls Tryz.prog 83 #[.string s] w fun e w' => e = .returned (.string (Mt.str (Mt.rb (s.data.toList.map Mt.sm) s.size))) ∧ Below w.heap.size w w' := by
  obtain ⟨i0, hi, hz0, hz1, hz2⟩ := info_parts Tryz.info5
  obtain ⟨t, ht, hts⟩ : ∃ t : ByteArray, Mt.str (s.data.toList.map Mt.sm) = t ∧ t.size = s.size := ⟨_, rfl, by rw [Mt.str_size]; simp⟩
  have hl : s.data.toList.map Mt.sm = t.data.toList := by rw [← ht, Mt.str_data]
  have hf := fun u => rfold_any s u (by omega)
  rw [ht] at hf
  rw [hl, ← hts]
  have HF := Lib.hid hf
  have hs' : t.size ≤ 70368744177664 := by omega
  clear hf hl ht hts hs
  go_enter Tryz.func83, Tryz.ntmps83
  go_wp2_with fail
  refine (HF.out _).mono ?_
  rintro e w1 ⟨rfl, hb1⟩
  have H1 := Lib.hid hb1
  clear hb1 HF
  go_wp2_with fail
  go_loopw [4, 5] (fun v i wr => ∃ k : Nat, k ≤ t.size ∧ i = .int .i64 k ∧ wr.ownsRow w.heap.size 5 1 v (Mt.rb t.data.toList k).length (Mt.cs (Mt.rb t.data.toList k)) ∧ Hid (Below w.heap.size w wr))
    (fun _ i _ => t.size - (intOf i).toNat)
  case atStart => exact ⟨0, Nat.zero_le _, rfl, World.ownsRow_nil _ _ _ _, H1⟩
  case round =>
    obtain ⟨k, hk, rfl, hown, HB⟩ := hrel
    by_cases hlt : k < t.size
    · obtain ⟨ao, cp, rfl⟩ := ownsRow_shape hown
      have HR := Lib.hid (show Mt.rb t.data.toList (k + 1) = Mt.rstep t.data.toList k (Mt.rb t.data.toList k) from rfl)
      have hrl := Mt.rb_length t.data.toList k
      have HZ := Lib.hid (show k = 0 → Mt.rb t.data.toList k = [] by rintro rfl; rfl)
      obtain ⟨o, ho⟩ : ∃ o, Mt.rb t.data.toList k = o := ⟨_, rfl⟩
      rw [ho] at HR HZ hrl hown ⊢
      clear ho
      obtain ⟨wo, hwo⟩ : ∃ wo : World, wo = wr := ⟨_, rfl⟩
      subst hwo
      have hgd : ∀ m (h : m < t.size), t.data.toList.getD m 0 = t[m] := fun m h => by
        simp [List.getD, List.getElem?_eq_getElem (show m < t.data.toList.length by simpa using h)]; rfl
      have HGD := Lib.hid hgd
      clear hgd
      have hsz := HB.out.size
      obtain ⟨c, hc⟩ : ∃ c, t[k] = c := ⟨_, rfl⟩
      have HC := Lib.hid (show t.data.toList.getD k 0 = c by rw [HGD.out k hlt, hc])
      go_wp2
      go_loop [6, 7] (fun l i => ∃ (j : Nat) (b : Bool), k ≤ j ∧ j ≤ t.size ∧ i = .int .i64 j ∧ l = .bool b ∧ Hid (b = true → Mt.later t.data.toList k = true) ∧ Hid (b = false → ∀ m, k ≤ m → m < j → t.data.toList.getD m 0 = 32)) (fun _ i => t.size - (intOf i).toNat)
      case atStart => exact ⟨k, false, Nat.le_refl _, by omega, rfl, rfl, Lib.hid (fun h => by cases h), Lib.hid (fun _ m h1 h2 => by omega)⟩
      case round =>
        obtain ⟨j, b, hkj, hj, rfl, rfl, HT, HN⟩ := hrel
        cases b with
        | true =>
          by_cases hjt : j < t.size
          all_goals
            have HL := Lib.hid (HT.out rfl)
            clear HT HN
            have hno := HL.out
            by_cases h32 : c = 32
            · have hc32 : ((c.toNat : Int) == 32) = true := by have := (Mt.eq32 c).1 h32; rw [this]; rfl
              by_cases hoe : o = []
              · have HK := Lib.hid (show Mt.rb t.data.toList (k + 1) = o by rw [HR.out, Mt.rstep, if_pos (.inr ⟨HC.out.trans h32, .inl hoe⟩)])
                have hol : ((o.length : Int) == 0) = true := by rw [hoe]; rfl
                clear h32 hoe hno
                go_wp2
                go_roundw
                case rel => exact ⟨k + 1, by omega, by go_num, by rw [HK.out]; exact hown, HB⟩
                case measure => simp [intOf]; omega
              · have hol : ((o.length : Int) == 0) = false := by
                  have := mt List.eq_nil_of_length_eq_zero hoe
                  simp; exact hoe
                have hk1 : 1 ≤ k := by
                  rcases Nat.eq_zero_or_pos k with h | h
                  · exact absurd (HZ.out h) hoe
                  · exact h
                obtain ⟨d, hd⟩ : ∃ d, t[k - 1] = d := ⟨_, rfl⟩
                have HD := Lib.hid (show t.data.toList.getD (k - 1) 0 = d by rw [HGD.out (k - 1) (by omega), hd])
                by_cases hd32 : d = 32
                · have HK := Lib.hid (show Mt.rb t.data.toList (k + 1) = o by rw [HR.out, Mt.rstep, if_pos (.inr ⟨HC.out.trans h32, .inr (HD.out.trans hd32)⟩)])
                  have hdd : ((d.toNat : Int) == 32) = true := by have := (Mt.eq32 d).1 hd32; rw [this]; rfl
                  clear h32 hoe hno hd32
                  go_wp2
                  go_roundw
                  case rel => exact ⟨k + 1, by omega, by go_num, by rw [HK.out]; exact hown, HB⟩
                  case measure => simp [intOf]; omega
                · have HA := Lib.hid (show Mt.rb t.data.toList (k + 1) = o ++ [c] by
                    rw [HR.out, Mt.rstep, if_neg (by rw [hno, HD.out]; simp [hoe, hd32]), HC.out])
                  have hdd : ((d.toNat : Int) == 32) = false := by have := mt (Mt.eq32 d).2 hd32; simp; omega
                  clear h32 hoe hno hd32
                  go_wp2_with (at_builtin; refine wpList_append_own _ rfl _ _ 114 rfl w.heap.size 5 i0 (.int .u8 0) 1 1 Tryz.underlying114 hi hz0 hz1 hz2 rfl (by decide) _ _ _ rfl (hown.alloc _) ⟨wo.heap.size, 0, none⟩ 1 1 [.int .u8 c.toNat] rfl rfl (cell_one_new _ _ _) (by simp [Value.oneCell']) (by unfold maxLen; omega) (by omega) (by simp; omega) ?_; intro v1 w1 hown1 hgr1 _)
                  have HB1 : Hid (Below w.heap.size w w1) := (HB.out.alloc hsz _).grown hgr1 (by simp; omega) (fun j hj => (hown.lt j hj).1)
                  go_roundw
                  case rel =>
                    refine ⟨k + 1, by omega, by go_num, ?_, HB1⟩
                    rw [HA.out, Mt.cs_append, List.length_append]
                    exact hown1
                  case measure => simp [intOf]; omega
            · have hc32 : ((c.toNat : Int) == 32) = false := by have := mt (Mt.eq32 c).2 h32; simp; omega
              have HA := Lib.hid (show Mt.rb t.data.toList (k + 1) = o ++ [c] by
                rw [HR.out, Mt.rstep, if_neg (by rw [hno, HC.out]; simp [h32]), HC.out])
              clear h32 hno
              go_wp2_with (at_builtin; refine wpList_append_own _ rfl _ _ 114 rfl w.heap.size 5 i0 (.int .u8 0) 1 1 Tryz.underlying114 hi hz0 hz1 hz2 rfl (by decide) _ _ _ rfl (hown.alloc _) ⟨wo.heap.size, 0, none⟩ 1 1 [.int .u8 c.toNat] rfl rfl (cell_one_new _ _ _) (by simp [Value.oneCell']) (by unfold maxLen; omega) (by omega) (by simp; omega) ?_; intro v1 w1 hown1 hgr1 _)
              have HB1 : Hid (Below w.heap.size w w1) := (HB.out.alloc hsz _).grown hgr1 (by simp; omega) (fun j hj => (hown.lt j hj).1)
              go_roundw
              case rel =>
                refine ⟨k + 1, by omega, by go_num, ?_, HB1⟩
                rw [HA.out, Mt.cs_append, List.length_append]
                exact hown1
              case measure => simp [intOf]; omega
        | false =>
          by_cases hjt : j < t.size
          · obtain ⟨x, hx⟩ : ∃ x, t[j] = x := ⟨_, rfl⟩
            have HX := Lib.hid (show t.data.toList.getD j 0 = x by rw [HGD.out j hjt, hx])
            by_cases h32 : x = 32
            · have hx32 : ((x.toNat : Int) != 32) = false := by have := (Mt.eq32 x).1 h32; rw [this]; rfl
              have H32 := Lib.hid h32
              clear h32 hc
              go_wp2
              go_round
              case rel => exact ⟨j + 1, false, by omega, by omega, by go_num, rfl, Lib.hid (fun h => by cases h), Lib.hid (fun _ m h1 h2 => by
                rcases Nat.lt_or_ge m j with h | h
                · exact HN.out rfl m h1 h
                · obtain rfl : m = j := by omega
                  exact HX.out.trans H32.out)⟩
              case measure => simp [intOf]; omega
            · have hx32 : ((x.toNat : Int) != 32) = true := by have := mt (Mt.eq32 x).2 h32; simp; omega
              have HL := Lib.hid (Mt.later_true t.data.toList k j hkj (by simpa using hjt) (by rw [HX.out]; exact h32))
              clear h32 hc
              go_wp2
              go_round
              case rel => exact ⟨j + 1, true, by omega, by omega, by go_num, rfl, Lib.hid (fun _ => HL.out), Lib.hid (fun h => by cases h)⟩
              case measure => simp [intOf]; omega
          · have hL : Mt.later t.data.toList k = false := Mt.later_false _ _ (fun m h1 h2 => HN.out rfl m h1 (by have : t.data.toList.length = t.size := rfl; omega))
            have HK := Lib.hid (show Mt.rb t.data.toList (k + 1) = o by rw [HR.out, Mt.rstep, if_pos (.inl hL)])
            clear hL HN HT
            go_wp2
            go_roundw
            case rel => exact ⟨k + 1, by omega, by go_num, by rw [HK.out]; exact hown, HB⟩
            case measure => simp [intOf]; omega
    · obtain rfl : k = t.size := by omega
      have hcv := conv_ownb (Mt.rb t.data.toList t.size) w.heap.size _ _ wr hown
      go_wp2
      go_ret
      exact ⟨rfl, HB.out⟩

end Go.Proofs.YtngdbhncafnliaaGreat
