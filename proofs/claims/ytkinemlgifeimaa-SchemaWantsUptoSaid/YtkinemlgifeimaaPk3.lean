/-
  Some texts of one proof, one behind the other.
-/
import Derived.Deep.RegionLaw
import Derived.Deep.AppendLies
import Derived.Deep.RegionWith
import Derived.Lib.Hide
import Derived.Deep.LoopGhost
import Derived.Test.YtkinemlgifeimaaPk0
set_option linter.unusedVariables false
set_option linter.unusedSimpArgs false

/-
  Rules of append and of string(b) that the walks of bytes lean on; the sixteen digits.
-/
namespace Go.Proofs.Ytkinemlgifeimaa
open Go.RowKit

/-- 'append' within the capacity, as a step of a region that draws its order. -/
theorem step_append_fits {P : Program} {ops : Array Oper} {o : Oper} {a : Act} {w : World} {K : Act → World → Prop} {Q : Exit → Act → World → Prop} {E : Prop}
    (hg : o.guard = none) (s x : Operand) (t : TypeId) (hop : o.op = Op.call { callee := Callee.builtin Builtin.append, args := #[s, x], argTypes := #[t, t] })
    (base : Nat) (e : TypeId) (i : TypeInfo) (size : Nat) (h1 : P.underlying t = some (.slice e)) (h2 : P.info? e = some i) (h4 : i.size = size)
    (g k cap : Nat) (xs : List Value) (hs : a.eval s = .slice (some ⟨g, 0, none⟩) k cap) (hown : w.ownsRow base e size (.slice (some ⟨g, 0, none⟩) k cap) k xs) (ad : Addr) (m c : Nat) (news : List Value) (hx : a.eval x = .slice (some ad) m c) (hn : news.length = m * size)
    (hc : ∀ j u, news[j]? = some u → w.cell? (ad.add j) = some u) (h1c : ∀ u ∈ news, u.oneCell' = true) (b1 : k + m ≤ cap)
    (hK : ∀ w', w'.ownsRow base e size (.slice (some ⟨g, 0, none⟩) (k + m) cap) (k + m) (xs ++ news) → w.grownBy w' (some g) → K (a.put o.dst (.slice (some ⟨g, 0, none⟩) (k + m) cap)) w') :
    if Region.wanted o (yielded ops a.tmps) = true then Oper.wp P o a w K Q else E := by
  have hw : Region.wanted o (yielded ops a.tmps) = true := by simp [Region.wanted, hg]
  rw [if_pos hw]
  obtain ⟨w', hrun, r1, r2⟩ := run_append_fits (P := P) w base t o.type e i size h1 h2 h4 g k cap xs hown ad m c news hn hc h1c b1
  unfold Oper.wp
  simp [execOp, hop, resolve, invoke, builtin, hs, hx, hrun, Result.andThen]
  exact hK w' r1 r2

/-- The sixteen digits, as the program's text has them. -/
theorem digit_at (x : Int) (h0 : 0 ≤ x) (h1 : x < 16) : ∃ d : UInt8, (∀ h, (⟨#[48, 49, 50, 51, 52, 53, 54, 55, 56, 57, 97, 98, 99, 100, 101, 102]⟩ : ByteArray)[x.toNat]'h = d) ∧ (d.toNat : Int) = Mt.dg x.toNat := by
  have hx : x.toNat < 16 := by omega
  generalize x.toNat = m at hx ⊢
  have h : m < (⟨#[48, 49, 50, 51, 52, 53, 54, 55, 56, 57, 97, 98, 99, 100, 101, 102]⟩ : ByteArray).size := hx
  refine ⟨(⟨#[48, 49, 50, 51, 52, 53, 54, 55, 56, 57, 97, 98, 99, 100, 101, 102]⟩ : ByteArray)[m]'h, fun _ => rfl, ?_⟩
  match m, hx, h with
  | 0, _, _ => rfl | 1, _, _ => rfl | 2, _, _ => rfl | 3, _, _ => rfl | 4, _, _ => rfl | 5, _, _ => rfl | 6, _, _ => rfl | 7, _, _ => rfl
  | 8, _, _ => rfl | 9, _, _ => rfl | 10, _, _ => rfl | 11, _, _ => rfl | 12, _, _ => rfl | 13, _, _ => rfl | 14, _, _ => rfl | 15, _, _ => rfl
  | m + 16, hx, _ => omega

/-- string(b) of a slice of the call's own. -/
theorem conv_row (l : List UInt8) (B g n cap : Nat) (w : World) (hl : l.length = n) (hown : w.ownsRow B 5 1 (.slice (some ⟨g, 0, none⟩) n cap) n (Mt.cs l)) :
    (convert 77 9 (.slice (some ⟨g, 0, none⟩) n cap)).run Try.prog w = .ok (.string (Mt.str l)) w := by
  rw [← Mt.str_nums]
  exact run_convert_bytes_arg (P := Try.prog) w 77 5 Try.underlying77 Try.underlying5 g 0 n cap (l.map fun c => (c.toNat : Int)) (by simpa using hl) (fun i hi => by
    rw [Nat.zero_add, hown.cellAt _ (by omega)]
    simp [Mt.cs, List.getD, List.getElem?_eq_getElem (show i < l.length by omega)]) 9 Try.underlying9

/-- string(b[:m]) of a slice of the call's own. -/
theorem conv_take (l : List UInt8) (B g n cap : Nat) (w : World) (hl : l.length = n) (hown : w.ownsRow B 5 1 (.slice (some ⟨g, 0, none⟩) n cap) n (Mt.cs l)) (m : Nat) (hm : m ≤ n) :
    (convert 77 9 (.slice (some ⟨g, 0, none⟩) m cap)).run Try.prog w = .ok (.string (Mt.str (l.take m))) w := by
  rw [← Mt.str_nums]
  exact run_convert_bytes_arg (P := Try.prog) w 77 5 Try.underlying77 Try.underlying5 g 0 m cap ((l.take m).map fun c => (c.toNat : Int)) (by simp; omega) (fun i hi => by
    rw [Nat.zero_add, hown.cellAt _ (by omega)]
    simp [Mt.cs, List.getD, List.getElem?_eq_getElem (show i < l.length by omega), hi]) 9 Try.underlying9

end Go.Proofs.Ytkinemlgifeimaa

/-
  What the calls octet.small, endsBlank, Fold and Prep come to, at every text.
-/
namespace Go.Proofs.Ytkinemlgifeimaa
open Go.RowKit

theorem small_any (c : UInt8) (w : World) : Calls Try.prog 66 #[.int .u8 c.toNat] w fun e w' => e = .returned (.int .u8 (Mt.sm c).toNat) ∧ w = w' := by
  have hs := Mt.sm_toNat c
  unfold Mt.smN at hs
  have hlt := c.toNat_lt
  generalize (Mt.sm c).toNat = m at hs
  generalize c.toNat = n at hs hlt
  by_cases h : 65 ≤ n ∧ n ≤ 90
  · rw [if_pos h] at hs
    have HS := Lib.hid hs
    clear hs
    have h1 : (65 : Int) ≤ (n : Int) := by omega
    have h2 : (n : Int) ≤ 90 := by omega
    go_enter Try.func66, Try.ntmps66
    go_wp2
    go_ret
    exact ⟨Mt.ret_int (by rw [HS.out]; omega), rfl⟩
  · rw [if_neg h] at hs
    have HS := Lib.hid hs
    clear hs
    by_cases h1 : 65 ≤ n
    · have h2 : decide ((n : Int) ≤ 90) = false := by simp; omega
      have h1 : (65 : Int) ≤ (n : Int) := by omega
      clear h
      go_enter Try.func66, Try.ntmps66
      go_wp2
      go_ret
      exact ⟨Mt.ret_int (by rw [HS.out]), rfl⟩
    · have h2 : decide ((65 : Int) ≤ (n : Int)) = false := by simp; omega
      clear h
      go_enter Try.func66, Try.ntmps66
      go_wp2
      go_ret
      exact ⟨Mt.ret_int (by rw [HS.out]), rfl⟩

set_option maxHeartbeats 400000 in
theorem fold_any (s : ByteArray) (w : World) (hs : s.size ≤ 140737488351232) :
    Calls Try.prog 59 #[.string s] w fun e w' => e = .returned (.string (Mt.str (s.data.toList.map Mt.sm))) ∧ Below w.heap.size w w' := by
  obtain ⟨i0, hi, hz0, hz1, hz2⟩ := info_parts Try.info5
  go_enter Try.func59, Try.ntmps59
  go_wp2_with (at_make; refine wpList_make_full _ rfl _ _ 77 rfl w.heap.size 5 i0 (.int .u8 0) 1 Try.underlying77 hi hz0 hz1 .i64 .i64 _ _ s.size rfl rfl rfl rfl (by rw [hz2]; omega) (by unfold maxLen; omega) (Nat.le_refl _) ?_; intro w1 hown hgr)
  have hb1 : Hid (Below w.heap.size w w1) := (Below.refl _ _).grown hgr (Nat.le_refl _) (fun k hk => by cases hk)
  have hown1 : w1.ownsRow w.heap.size 5 1 (.slice (some ⟨w.heap.size, 0, none⟩) s.size s.size) s.size (Mt.cs ((s.data.toList.map Mt.sm).take 0 ++ List.replicate (s.size - 0) 0)) := by
    have e : Mt.cs ((s.data.toList.map Mt.sm).take 0 ++ List.replicate (s.size - 0) 0) = List.replicate s.size (Value.int .u8 0) := by simp [Mt.cs]
    rw [e]; simpa [toList_madeCells_one, Value.cells] using hown
  clear hown hgr hi hz0 hz1 hz2
  go_loopw [10] (fun i wr => ∃ k : Nat, k ≤ s.size ∧ i = .int .i64 k ∧ wr.ownsRow w.heap.size 5 1 (.slice (some ⟨w.heap.size, 0, none⟩) s.size s.size) s.size (Mt.cs ((s.data.toList.map Mt.sm).take k ++ List.replicate (s.size - k) 0)) ∧ Hid (Below w.heap.size w wr))
    (fun i _ => s.size - (intOf i).toNat)
  case atStart => exact ⟨0, Nat.zero_le _, rfl, hown1, hb1⟩
  case round =>
    obtain ⟨k, hk, rfl, hown, HB⟩ := hrel
    by_cases hlt : k < s.size
    · obtain ⟨c, hc⟩ : ∃ c, s[k] = c := ⟨_, rfl⟩
      have hcell : wr.cell? ⟨w.heap.size, k, none⟩ = some (.int .u8 0) := by
        rw [hown.cellAt _ (by omega), Mt.fold_cell s k hlt]
      have hfz := hown.frozenAt k
      go_wp2_with (go_at_call 66; refine (small_any _ _).mono ?_; rintro e w' ⟨rfl, rfl⟩)
      go_roundw
      case rel =>
        refine ⟨k + 1, by omega, by go_num, ?_, Below.setCell HB.out (Nat.le_refl _) _⟩
        have := (hown.stored k (.int .u8 (Mt.sm c).toNat)).1
        rw [← hc] at this ⊢
        rwa [Mt.fold_set s k hlt] at this
      case measure => simp [intOf]; omega
    · obtain rfl : k = s.size := by omega
      have e : (s.data.toList.map Mt.sm).take s.size ++ List.replicate (s.size - s.size) 0 = s.data.toList.map Mt.sm := by
        rw [Nat.sub_self, List.replicate_zero, List.append_nil, List.take_of_length_le (by simp)]
      rw [e] at hown
      clear e
      have hcv := conv_row (s.data.toList.map Mt.sm) w.heap.size w.heap.size s.size s.size wr (by simp) hown
      go_wp2
      go_ret
      exact ⟨rfl, HB.out⟩

end Go.Proofs.Ytkinemlgifeimaa

/-
  What the document's digit comes to; string(b) of a slice of the call's own.
-/
namespace Go.Proofs.Ytkinemlgifeimaa
open Go.RowKit

/-- string(b) of whatever slice of the call's own. -/
theorem conv_own (l : List Int) (B n : Nat) (v : Value) (w : World) (hown : w.ownsRow B 5 1 v n (l.map (Value.int .u8))) :
    (convert 77 9 v).run Try.prog w = .ok (.string (strOfNums l)) w := by
  have hl : l.length = n := by have := hown.1; simpa using this
  rcases hown.2 with ⟨rfl, rfl⟩ | ⟨g, cap, cur, rfl, _⟩
  · have : l = [] := List.eq_nil_of_length_eq_zero hl
    subst this
    exact run_convert_bytes_nil (P := Try.prog) w 77 5 Try.underlying77 Try.underlying5 0 0 9 Try.underlying9
  · exact run_convert_bytes_arg (P := Try.prog) w 77 5 Try.underlying77 Try.underlying5 g 0 n cap l hl (fun i hi => by
      rw [Nat.zero_add, hown.cellAt _ (by omega)]
      simp [List.getD, List.getElem?_eq_getElem (show i < l.length by omega)]) 9 Try.underlying9

end Go.Proofs.Ytkinemlgifeimaa

/-
  What the document's Fold comes to.
-/
namespace Go.Proofs.Ytkinemlgifeimaa
open Go.RowKit

/-- string(b) of whatever slice of the call's own, bytes. -/
theorem conv_ownb (l : List UInt8) (B n : Nat) (v : Value) (w : World) (hown : w.ownsRow B 5 1 v n (Mt.cs l)) :
    (convert 77 9 v).run Try.prog w = .ok (.string (Mt.str l)) w := by
  have h := conv_own (l.map fun c => (c.toNat : Int)) B n v w (by simpa [Mt.cs, Function.comp_def] using hown)
  rwa [Mt.str_nums] at h

set_option maxHeartbeats 800000 in
set_option maxRecDepth 100000 in
theorem rfold_any (s : ByteArray) (w : World) (hs : s.size ≤ 140737488351232) :
    Calls Try.prog 29 #[.string s] w fun e w' => e = .returned (.string (Mt.str (s.data.toList.map Mt.sm))) ∧ Below w.heap.size w w' := by
  obtain ⟨i0, hi, hz0, hz1, hz2⟩ := info_parts Try.info5
  go_enter Try.func29, Try.ntmps29
  go_wp2
  go_loopw [3, 4] (fun v i wr => ∃ k : Nat, k ≤ s.size ∧ i = .int .i64 k ∧ wr.ownsRow w.heap.size 5 1 v k (Mt.cs ((s.data.toList.take k).map Mt.sm)) ∧ Hid (Below w.heap.size w wr))
    (fun _ i _ => s.size - (intOf i).toNat)
  case atStart => exact ⟨0, Nat.zero_le _, rfl, World.ownsRow_nil _ _ _ _, Below.refl _ _⟩
  case round =>
    obtain ⟨k, hk, rfl, hown, HB⟩ := hrel
    by_cases hlt : k < s.size
    · obtain ⟨c, hc⟩ : ∃ c, s[k] = c := ⟨_, rfl⟩
      have HE := Lib.hid (show Mt.cs ((s.data.toList.take (k + 1)).map Mt.sm) = Mt.cs ((s.data.toList.take k).map Mt.sm) ++ [.int .u8 (Mt.sm c).toNat] by
        rw [Mt.take_snoc s k hlt, hc, List.map_append, Mt.cs_append]; rfl)
      have hsm := Mt.sm_toNat c
      unfold Mt.smN at hsm
      have hsz := HB.out.size
      have hc256 : (c.toNat : Int) < 256 := by have := c.toNat_lt; omega
      have hle : ∀ (x : Int), Hid (x = ((Mt.sm c).toNat : Int)) → Hid (Mt.cs ((s.data.toList.take (k + 1)).map Mt.sm) = Mt.cs ((s.data.toList.take k).map Mt.sm) ++ [.int .u8 x]) := fun x hx => by
        have e : x = ((Mt.sm c).toNat : Int) := hx.out
        subst e; exact HE.out
      by_cases h : 65 ≤ c.toNat ∧ c.toNat ≤ 90
      · rw [if_pos h] at hsm
        have HX := hle ((c.toNat : Int) - 65 + 97) (Lib.hid (by omega))
        have h1 : (65 : Int) ≤ (c.toNat : Int) := by omega
        have h2 : (c.toNat : Int) ≤ 90 := by omega
        clear hsm hle h
        go_wp2_with (at_builtin; refine wpList_append_own _ rfl _ _ 77 rfl w.heap.size 5 i0 (.int .u8 0) 1 1 Try.underlying77 hi hz0 hz1 hz2 rfl (by decide) _ _ _ rfl (hown.alloc _) ⟨wr.heap.size, 0, none⟩ 1 1 [.int .u8 ((c.toNat : Int) - 65 + 97)] rfl rfl (cell_one_new _ _ _) (by simp [Value.oneCell']) (by unfold maxLen; omega) (by omega) (by simp; omega) ?_; intro v1 w1 hown1 hgr1 _)
        have HB1 : Hid (Below w.heap.size w w1) := (HB.out.alloc hsz _).grown hgr1 (by simp; omega) (fun j hj => (hown.lt j hj).1)
        go_roundw
        case rel => exact ⟨k + 1, by omega, by go_num, by rw [HX.out]; exact hown1, HB1⟩
        case measure => simp [intOf]; omega
      · rw [if_neg h] at hsm
        have HX := hle (c.toNat : Int) (Lib.hid (by omega))
        by_cases h1 : 65 ≤ c.toNat
        · have h2 : decide ((c.toNat : Int) ≤ 90) = false := by simp; omega
          have h1 : (65 : Int) ≤ (c.toNat : Int) := by omega
          clear hsm hle h
          go_wp2_with (at_builtin; refine wpList_append_own _ rfl _ _ 77 rfl w.heap.size 5 i0 (.int .u8 0) 1 1 Try.underlying77 hi hz0 hz1 hz2 rfl (by decide) _ _ _ rfl (hown.alloc _) ⟨wr.heap.size, 0, none⟩ 1 1 [.int .u8 (c.toNat : Int)] rfl rfl (cell_one_new _ _ _) (by simp [Value.oneCell']) (by unfold maxLen; omega) (by omega) (by simp; omega) ?_; intro v1 w1 hown1 hgr1 _)
          have HB1 : Hid (Below w.heap.size w w1) := (HB.out.alloc hsz _).grown hgr1 (by simp; omega) (fun j hj => (hown.lt j hj).1)
          go_roundw
          case rel => exact ⟨k + 1, by omega, by go_num, by rw [HX.out]; exact hown1, HB1⟩
          case measure => simp [intOf]; omega
        · have h2 : decide ((65 : Int) ≤ (c.toNat : Int)) = false := by simp; omega
          clear hsm hle h
          go_wp2_with (at_builtin; refine wpList_append_own _ rfl _ _ 77 rfl w.heap.size 5 i0 (.int .u8 0) 1 1 Try.underlying77 hi hz0 hz1 hz2 rfl (by decide) _ _ _ rfl (hown.alloc _) ⟨wr.heap.size, 0, none⟩ 1 1 [.int .u8 (c.toNat : Int)] rfl rfl (cell_one_new _ _ _) (by simp [Value.oneCell']) (by unfold maxLen; omega) (by omega) (by simp; omega) ?_; intro v1 w1 hown1 hgr1 _)
          have HB1 : Hid (Below w.heap.size w w1) := (HB.out.alloc hsz _).grown hgr1 (by simp; omega) (fun j hj => (hown.lt j hj).1)
          go_roundw
          case rel => exact ⟨k + 1, by omega, by go_num, by rw [HX.out]; exact hown1, HB1⟩
          case measure => simp [intOf]; omega
    · obtain rfl : k = s.size := by omega
      have ht : s.data.toList.take s.size = s.data.toList := List.take_of_length_le (Nat.le_refl _)
      rw [ht] at hown
      clear ht
      have hcv := conv_ownb (s.data.toList.map Mt.sm) w.heap.size _ _ wr hown
      go_wp2
      go_ret
      exact ⟨rfl, HB.out⟩

end Go.Proofs.Ytkinemlgifeimaa
