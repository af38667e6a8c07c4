/-
  What the call octet.Hex comes to, at every text: its digits, two a byte.
-/
import Derived.Test.YtpdionmecflibaaDoorPut
import Derived.Deep.RegionLaw
import Derived.Deep.AppendLies
import Derived.Deep.RegionWith
import Derived.Lib.Hide
import Derived.Test.YtpdionmecflibaaDoorText
namespace Go.Proofs.YtpdionmecflibaaDoor
open Go.RowKit

/-- 'append' within the capacity, as a step of a region that draws its order. -/
theorem step_append_fits {P : Program} {ops : Array Oper} {o : Oper} {a : Act} {w : World} {K : Act → World → Prop} {Q : Exit → Act → World → Prop} {E : Prop}
    (hg : o.guard = none) (s x : Operand) (t : TypeId) (hop : o.op = Op.call { callee := Callee.builtin Builtin.append, args := #[s, x], argTypes := #[t, t] })
    (base : Nat) (e : TypeId) (i : TypeInfo) (size : Nat) (h1 : P.underlying t = some (.slice e)) (h2 : P.info? e = some i) (h4 : i.size = size)
    (g k cap : Nat) (xs : List Value) (hs : a.eval s = .slice (some ⟨g, 0, none⟩) k cap) (hown : w.ownsRow base e size (.slice (some ⟨g, 0, none⟩) k cap) k xs) (ad : Addr) (m c : Nat) (news : List Value) (hx : a.eval x = .slice (some ad) m c) (hn : news.length = m * size)
    (hc : ∀ j u, news[j]? = some u → w.cell? (ad.add j) = some u) (h1c : ∀ u ∈ news, u.oneCell' = true) (b1 : k + m ≤ cap)
    (hK : ∀ w', w'.ownsRow base e size (.slice (some ⟨g, 0, none⟩) (k + m) cap) (k + m) (xs ++ news) → w.grownBy w' (some g) → K (a.put o.dst (.slice (some ⟨g, 0, none⟩) (k + m) cap)) w') :
    if Region.wanted o (yielded ops a.tmps) = true then Oper.wp P o a w K Q else E := by
  have hw : Region.wanted o (yielded ops a.tmps) = true := by simp [Region.wanted, hg]
  rw [if_pos hw]
  obtain ⟨w', hrun, r1, r2⟩ := run_append_fits (P := P) w base t o.type e i size h1 h2 h4 g k cap xs hown ad m c news hn hc h1c b1
  unfold Oper.wp
  simp [execOp, hop, resolve, invoke, builtin, hs, hx, hrun, Result.andThen]
  exact hK w' r1 r2

/-- The sixteen digits, as the program's text has them. -/
theorem digit_at (x : Int) (h0 : 0 ≤ x) (h1 : x < 16) : ∃ d : UInt8, (∀ h, (⟨#[48, 49, 50, 51, 52, 53, 54, 55, 56, 57, 97, 98, 99, 100, 101, 102]⟩ : ByteArray)[x.toNat]'h = d) ∧ (d.toNat : Int) = Mt.dg x.toNat := by
  have hx : x.toNat < 16 := by omega
  generalize x.toNat = m at hx ⊢
  have h : m < (⟨#[48, 49, 50, 51, 52, 53, 54, 55, 56, 57, 97, 98, 99, 100, 101, 102]⟩ : ByteArray).size := hx
  refine ⟨(⟨#[48, 49, 50, 51, 52, 53, 54, 55, 56, 57, 97, 98, 99, 100, 101, 102]⟩ : ByteArray)[m]'h, fun _ => rfl, ?_⟩
  match m, hx, h with
  | 0, _, _ => rfl | 1, _, _ => rfl | 2, _, _ => rfl | 3, _, _ => rfl | 4, _, _ => rfl | 5, _, _ => rfl | 6, _, _ => rfl | 7, _, _ => rfl
  | 8, _, _ => rfl | 9, _, _ => rfl | 10, _, _ => rfl | 11, _, _ => rfl | 12, _, _ => rfl | 13, _, _ => rfl | 14, _, _ => rfl | 15, _, _ => rfl
  | m + 16, hx, _ => omega

set_option maxHeartbeats 400000 in
theorem hex_any (s : ByteArray) (w : World) (hs : s.size ≤ 140737488351232) :
    Calls Tryd.prog 30 #[.string s] w fun e w' => e = .returned (.string (strOfNums (Mt.hex s.data.toList))) ∧ Below w.heap.size w w' := by
  obtain ⟨i0, hi, hz0, hz1, hz2⟩ := info_parts Tryd.info5
  go_enter Tryd.func30, Tryd.ntmps30
  go_wp2_with (at_make; refine wpList_make_own _ rfl _ _ 46 rfl w.heap.size 5 i0 (.int .u8 0) 1 Tryd.underlying46 hi hz0 hz1 .i64 .i64 _ (2 * s.size) rfl rfl (by omega) (by rw [hz2]; omega) (by unfold maxLen; omega) (Nat.le_refl _) ?_; intro w1 hown hgr)
  have hb1 : Hid (Below w.heap.size w w1) := (Below.refl _ _).grown hgr (Nat.le_refl _) (fun k hk => by cases hk)
  clear hgr
  go_loopw [3, 11] (fun v i wr => ∃ k : Nat, k ≤ s.size ∧ i = .int .i64 k ∧ v = .slice (some ⟨w.heap.size, 0, none⟩) (2 * k) (2 * s.size) ∧ wr.ownsRow w.heap.size 5 1 (.slice (some ⟨w.heap.size, 0, none⟩) (2 * k) (2 * s.size)) (2 * k) ((Mt.hex (s.data.toList.take k)).map (Value.int .u8)) ∧ Hid (Below w.heap.size w wr))
    (fun _ i _ => s.size - (intOf i).toNat)
  case atStart => exact ⟨0, Nat.zero_le _, rfl, rfl, hown, hb1⟩
  case round =>
    obtain ⟨k, hk, rfl, rfl, hown, HB⟩ := hrel
    by_cases hlt : k < s.size
    · have hi0 : (0 : Int) ≤ (k : Int) := Int.natCast_nonneg _
      have hi1 : (k : Int) < (s.size : Int) := by omega
      obtain ⟨c, hc⟩ : ∃ c, s[k] = c := ⟨_, rfl⟩
      have hc256 : (c.toNat : Int) < 256 := by have := c.toNat_lt; omega
      have q0 : 0 ≤ (c.toNat : Int) / 16 := by omega
      have q1 : (c.toNat : Int) / 16 < 16 := by omega
      have r0 : 0 ≤ (c.toNat : Int) % 16 := by omega
      have r1 : (c.toNat : Int) % 16 < 16 := by omega
      obtain ⟨d1, hd1, hv1⟩ := digit_at _ q0 q1
      obtain ⟨d2, hd2, hv2⟩ := digit_at _ r0 r1
      have hand := Mt.and15 (c.toNat : Int) (by omega) hc256
      have HV1 := Lib.hid hv1
      have HV2 := Lib.hid hv2
      clear hv1 hv2
      go_wp2
      go_region_law (refine step_append_fits rfl _ _ 46 rfl w.heap.size 5 i0 1 Tryd.underlying46 hi hz1 w.heap.size (2 * k) (2 * s.size) _ rfl ((hown.alloc _).drew) ⟨wr.heap.size, 0, none⟩ 2 2 [.int .u8 d1.toNat, .int .u8 d2.toNat] rfl rfl (World.news_of_block (cs := #[.int .u8 d1.toNat, .int .u8 d2.toNat]) (t := 5) (fr := (0, 0)) (heap_alloc_new wr _)) (by simp [Value.oneCell']) (by omega) ?_; intro w2 hown2 hgr2)
      all_goals
        go_wp2
        go_roundw
        case rel =>
          refine ⟨k + 1, by omega, by go_num, rfl, ?_, (HB.out.alloc HB.out.size _).drew.grown hgr2 (by have := HB.out.size; simp; omega) (fun j hj => by cases hj; exact Nat.le_refl _)⟩
          have e : (Mt.hex (s.data.toList.take (k + 1))).map (Value.int .u8) = (Mt.hex (s.data.toList.take k)).map (Value.int .u8) ++ [.int .u8 d1.toNat, .int .u8 d2.toNat] := by
            rw [Mt.take_snoc s k hlt, Mt.hex_append, hc]
            have e1 : (d1.toNat : Int) = Mt.dg (c.toNat / 16) := by rw [HV1.out]; congr 1
            have e2 : (d2.toNat : Int) = Mt.dg (c.toNat % 16) := by rw [HV2.out]; congr 1
            simp [Mt.hex, e1, e2]
          rw [e]
          exact hown2
        case measure => simp [intOf]; omega
    · obtain rfl : k = s.size := by omega
      have hl : (Mt.hex s.data.toList).length = 2 * s.size := by rw [Mt.hex_length]; rfl
      have ht : s.data.toList.take s.size = s.data.toList := List.take_of_length_le (Nat.le_refl _)
      rw [ht] at hown
      have hcv := run_convert_bytes_arg (P := Tryd.prog) wr 46 5 Tryd.underlying46 Tryd.underlying5 w.heap.size 0 (2 * s.size) (2 * s.size) (Mt.hex s.data.toList) hl (fun i hi => by
        rw [Nat.zero_add, hown.cellAt _ (by omega)]
        simp [List.getD, List.getElem?_eq_getElem (show i < (Mt.hex s.data.toList).length by omega)]) 9 Tryd.underlying9
      clear hl ht
      go_wp2
      go_ret
      exact ⟨rfl, HB.out⟩

end Go.Proofs.YtpdionmecflibaaDoor

/-
  string(b) of a slice of the call's own.
-/
namespace Go.Proofs.YtpdionmecflibaaDoor
open Go.RowKit

/-- string(b) of a slice of the call's own. -/
theorem conv_row (l : List UInt8) (B g n cap : Nat) (w : World) (hl : l.length = n) (hown : w.ownsRow B 5 1 (.slice (some ⟨g, 0, none⟩) n cap) n (Mt.cs l)) :
    (convert 46 9 (.slice (some ⟨g, 0, none⟩) n cap)).run Tryd.prog w = .ok (.string (Mt.str l)) w := by
  rw [← Mt.str_nums]
  exact run_convert_bytes_arg (P := Tryd.prog) w 46 5 Tryd.underlying46 Tryd.underlying5 g 0 n cap (l.map fun c => (c.toNat : Int)) (by simpa using hl) (fun i hi => by
    rw [Nat.zero_add, hown.cellAt _ (by omega)]
    simp [Mt.cs, List.getD, List.getElem?_eq_getElem (show i < l.length by omega)]) 9 Tryd.underlying9

/-- string(b[:m]) of a slice of the call's own. -/
theorem conv_take (l : List UInt8) (B g n cap : Nat) (w : World) (hl : l.length = n) (hown : w.ownsRow B 5 1 (.slice (some ⟨g, 0, none⟩) n cap) n (Mt.cs l)) (m : Nat) (hm : m ≤ n) :
    (convert 46 9 (.slice (some ⟨g, 0, none⟩) m cap)).run Tryd.prog w = .ok (.string (Mt.str (l.take m))) w := by
  rw [← Mt.str_nums]
  exact run_convert_bytes_arg (P := Tryd.prog) w 46 5 Tryd.underlying46 Tryd.underlying5 g 0 m cap ((l.take m).map fun c => (c.toNat : Int)) (by simp; omega) (fun i hi => by
    rw [Nat.zero_add, hown.cellAt _ (by omega)]
    simp [Mt.cs, List.getD, List.getElem?_eq_getElem (show i < l.length by omega), hi]) 9 Tryd.underlying9

end Go.Proofs.YtpdionmecflibaaDoor
