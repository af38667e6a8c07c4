/-
  What the state's end comes to: the rest, filled up.
-/
import Derived.Test.YtpdionmecflibaaDoorState
import Derived.ArgAppend
namespace Go.Proofs.YtpdionmecflibaaDoor
open Go.RowKit

theorem own_mono {w : World} {b0 b1 : Nat} {e : TypeId} {size : Nat} {v : Value} {n : Nat} {xs : List Value} (h : w.ownsRow b1 e size v n xs) (hb : b0 ≤ b1) : w.ownsRow b0 e size v n xs := by
  obtain ⟨h1, h2⟩ := h
  refine ⟨h1, ?_⟩
  rcases h2 with h2 | ⟨g, cap, cur, e1, e2, e3⟩
  · exact .inl h2
  · exact .inr ⟨g, cap, cur, e1, by omega, e3⟩
theorem own_form {w : World} {b : Nat} {e : TypeId} {size : Nat} {v : Value} {n : Nat} {xs : List Value} (h : w.ownsRow b e size v n xs) (hn : 0 < n) : ∃ g cap, v = .slice (some ⟨g, 0, none⟩) n cap := by
  rcases h.2 with ⟨_, h2⟩ | ⟨g, cap, cur, e1, _⟩
  · omega
  · exact ⟨g, cap, e1⟩
theorem Mt.cs_getD (l : List UInt8) (j : Nat) (u : Value) (h : (Mt.cs l)[j]? = some u) : j < l.length ∧ u = .int .u8 ((l.getD j 0).toNat : Int) := by
  have hj : j < l.length := by
    rcases Nat.lt_or_ge j l.length with h2 | h2
    · exact h2
    · rw [List.getElem?_eq_none (by rw [Mt.cs_length]; exact h2)] at h; cases h
  refine ⟨hj, ?_⟩
  simp [Mt.cs, List.getElem?_eq_getElem hj] at h
  simp [List.getD, List.getElem?_eq_getElem hj, h]
theorem Mt.cs_one (l : List UInt8) : ∀ u ∈ Mt.cs l, u.oneCell' = true := by
  intro u hu
  simp only [Mt.cs, List.mem_map] at hu
  obtain ⟨x, _, rfl⟩ := hu
  rfl

/-- How many a slice has. -/
def lenV : Value → Nat
  | .slice _ n _ => n
  | _ => 0

set_option maxHeartbeats 800000 in
set_option maxRecDepth 100000 in
theorem end_any (B : Nat) (v : Mt.W8) (R : List UInt8) (c : Nat) (w : World) (h : IsState w B v R c) (hc : c < 1152921504606846976) :
    Calls Tryd.prog 26 #[.pointer (some ⟨B, 0, none⟩)] w fun e w' => ∃ v', e = .returned v' ∧ w'.ownsRow w.heap.size 5 1 v' (c % 64 + (Mt.zs c + 9)) (Mt.cs (R.take (c % 64) ++ Mt.pd c)) ∧ Below w.heap.size w w' := by
  obtain ⟨i0, hi, hz0, hz1, hz2⟩ := info_parts Tryd.info5
  have HF := Lib.hid (filled_any B v R c w h hc)
  have HS := Lib.hid h
  have hcell := h.count
  obtain ⟨f, hf⟩ : ∃ f, c % 64 = f := ⟨_, rfl⟩
  have hf64 : f < 64 := by omega
  have hff : (f : Int) ≤ 64 := by omega
  rw [hf] at HF
  have HFF := Lib.hid hf
  rw [hf]
  clear h hf
  go_enter Tryd.func26, Tryd.ntmps26
  go_wp2_with fail
  refine (HF.out).mono ?_
  rintro e w' ⟨rfl, rfl⟩
  have HLEN := Lib.hid (show (Mt.cs (R.take f)).length = f * 1 by rw [Mt.cs_length, List.length_take, HS.out.1]; omega)
  have HOLD : Hid (∀ A : Obj, ∀ b, some (⟨B, 8, none⟩ : Addr) = some b → ∀ (j : Nat) u, (Mt.cs (R.take f))[j]? = some u → (w.alloc A).cell? (b.add j) = some u) := Lib.hid (by
    intro A b hb j u hu
    obtain rfl := Option.some.inj hb
    obtain ⟨h1, rfl⟩ := Mt.cs_getD _ _ _ hu
    have h2 : j < f := by rw [List.length_take, HS.out.1] at h1; omega
    have hB := HS.out.lt
    rw [add_off, ((Below.refl w.heap.size w).alloc (Nat.le_refl _) _).cell (p := ⟨B, 8 + j, none⟩) hB, HS.out.rest j (by omega)]
    have e : (R.take f).getD j 0 = R.getD j 0 := by simp only [List.getD]; rw [List.getElem?_take, if_pos h2]
    rw [e])
  go_upto_region 3 with (at_builtin; refine wpList_append_grows _ rfl _ _ 46 rfl 5 i0 (.int .u8 0) 1 1 Tryd.underlying46 hi hz0 hz1 hz2 rfl (by decide) (some ⟨B, 8, none⟩) f f (Mt.cs (R.take f)) rfl (fun h => by cases h) HLEN.out (HOLD.out _) ⟨w.heap.size, 0, none⟩ 1 1 [.int .u8 128] rfl rfl (cell_one_new _ _ _) (by simp [Value.oneCell']) (by omega) (by unfold maxLen; omega) (by omega) ?_; intro v1 w1 hown1 hgr1)
  have hB1 : Below w.heap.size w w1 := ((Below.refl _ _).alloc (Nat.le_refl _) _).grown hgr1 (by simp) (fun k hk => by cases hk)
  have hO1 : w1.ownsRow w.heap.size 5 1 v1 (f + 1 + 0) (Mt.cs (R.take f ++ 128 :: List.replicate 0 0)) := by
    have h := own_mono (b0 := w.heap.size) hown1 (by simp)
    have e : Mt.cs (R.take f ++ 128 :: List.replicate 0 0) = Mt.cs (R.take f) ++ [.int .u8 128] := by rw [Mt.cs_append]; rfl
    rw [e]; exact h
  have HB1 := Lib.hid hB1
  have HO1 := Lib.hid hO1
  obtain ⟨z, hz⟩ : ∃ z, Mt.zs c = z := ⟨_, rfl⟩
  have hzf : z = (119 - f) % 64 := by rw [← hz, ← HFF.out]; unfold Mt.zs; omega
  have HZ := Lib.hid hz
  have HZF := Lib.hid hzf
  clear hB1 hO1 hown1 hgr1 hz hzf HF HLEN HOLD hcell
  go_loopw [4] (fun v wr => ∃ m g cp : Nat, m ≤ z ∧ v = .slice (some ⟨g, 0, none⟩) (f + 1 + m) cp ∧ Hid (wr.ownsRow w.heap.size 5 1 (.slice (some ⟨g, 0, none⟩) (f + 1 + m) cp) (f + 1 + m) (Mt.cs (R.take f ++ 128 :: List.replicate m 0))) ∧ Hid (Below w.heap.size w wr))
    (fun v _ => 128 - lenV v)
  case atStart =>
    obtain ⟨g, cp, rfl⟩ := own_form HO1.out (by omega)
    exact ⟨0, g, cp, Nat.zero_le _, rfl, HO1, HB1⟩
  case round =>
    clear HO1 HB1
    obtain ⟨m, g, cp, hm, rfl, HO, HB⟩ := hrel
    have hz63 : z ≤ 63 := by have := HZF.out; omega
    by_cases hlt : m < z
    · have ht : ((((f + 1 + m : Nat) : Int) % 64) != 56) = true := by
        have := HZF.out
        simp; omega
      have hsz := HB.out.size
      have hown := HO.out
      go_wp2_with (at_builtin; refine wpList_append_own _ rfl _ _ 46 rfl w.heap.size 5 i0 (.int .u8 0) 1 1 Tryd.underlying46 hi hz0 hz1 hz2 rfl (by decide) _ _ _ rfl (hown.alloc _) ⟨wr.heap.size, 0, none⟩ 1 1 [.int .u8 0] rfl rfl (cell_one_new _ _ _) (by simp [Value.oneCell']) (by unfold maxLen; omega) (by omega) (by simp; omega) ?_; intro v2 w2 hown2 hgr2 _)
      have HB2 : Hid (Below w.heap.size w w2) := Lib.hid ((HB.out.alloc (by omega) _).grown hgr2 (by simp; omega) (fun j hj => (hown.lt j hj).1))
      have HO2 := Lib.hid hown2
      clear hgr2 hown2 hown HO HB
      go_roundw
      case rel =>
        obtain ⟨g2, cp2, rfl⟩ := own_form HO2.out (by omega)
        refine ⟨m + 1, g2, cp2, by omega, rfl, Lib.hid ?_, HB2⟩
        have e : Mt.cs (R.take f ++ 128 :: List.replicate (m + 1) 0) = Mt.cs (R.take f ++ 128 :: List.replicate m 0) ++ [.int .u8 0] := by
          rw [List.replicate_succ', ← List.cons_append, ← List.append_assoc, Mt.cs_append _ [_]]; rfl
        rw [e]
        exact HO2.out
      case measure =>
        obtain ⟨g2, cp2, rfl⟩ := own_form HO2.out (by omega)
        simp [lenV]; omega
    · obtain rfl : m = z := by omega
      have ht : ((((f + 1 + m : Nat) : Int) % 64) != 56) = false := by
        have := HZF.out
        simp; omega
      have hsz := HB.out.size
      have hcell : wr.cell? ⟨B, 72, none⟩ = some (.int .u64 (c : Int)) := (HS.out.below HB.out HS.out.lt).count
      have hmul : (8 * (c : Int)) % 18446744073709551616 = 8 * (c : Int) := by omega
      have HAP := Lib.hid (app_any (8 * c) 8 (f + 1 + m) w.heap.size _ _ wr (by omega) (by omega) hsz HO.out)
      have HPD := Lib.hid (show R.take f ++ Mt.pd c = R.take f ++ 128 :: List.replicate m 0 ++ Mt.be8 (8 * c) 8 by
        unfold Mt.pd
        rw [HZ.out, show 8 * c % 18446744073709551616 = 8 * c by omega]
        simp)
      clear HO
      go_wp2_with fail
      refine (HAP.out).mono ?_
      rintro e w3 ⟨v3, rfl, ho3, hb3⟩
      have HO3 := Lib.hid ho3
      have HB3 := Lib.hid (HB.out.trans hb3)
      clear ho3 hb3
      go_wp2_with fail
      go_ret
      refine ⟨_, rfl, ?_, HB3.out⟩
      rw [HPD.out, HZ.out, show f + (m + 9) = f + 1 + m + 8 by omega]
      exact HO3.out

end Go.Proofs.YtpdionmecflibaaDoor
