/-
  Some texts of one proof, one behind the other.
-/
import Derived.Test.YtnioagojiipjlaaGreatPk43
set_option linter.unusedVariables false
set_option linter.unusedSimpArgs false

/-
  A sector read as a cell, by the document.
-/
namespace Go.Proofs.YtnioagojiipjlaaGreat
open Go.RowKit
theorem RdWay.tells {l : List UInt8} {N : Nat} (h : l.length = 128) {z : Bool} (hz : RdWay (Mt.gn l 5 4) (Mt.gn l 13 2) (Mt.gn l 15 2) (Mt.gn l 17 1) (Mt.str (Mt.Cl.sector ⟨Mt.gn l 5 4, N, Mt.gn l 13 2, Mt.gn l 15 2, (l.drop 18).take (Mt.gn l 17 1)⟩)) (Mt.str l) z) (hN : Mt.gn l 9 4 = N) : (z = true ↔ Mt.isCl l) := by
  have hcmp : ∀ S : List UInt8, (Mt.str S).toList = (Mt.str l).toList ↔ S = l := fun S => by rw [ByteArray.toList_eq, ByteArray.toList_eq]; rfl
  have hc0 : Mt.cl0 l = ⟨Mt.gn l 5 4, N, Mt.gn l 13 2, Mt.gn l 15 2, (l.drop 18).take (Mt.gn l 17 1)⟩ := by unfold Mt.cl0; rw [hN]
  have hbl : Mt.gn l 17 1 ≤ 110 → ((l.drop 18).take (Mt.gn l 17 1)).length = Mt.gn l 17 1 := fun hb => by rw [List.length_take, List.length_drop, h]; omega
  have hic : Mt.isCl l ↔ (l.length = 128 ∧ l.getD 4 0 = 67 ∧ Mt.gn l 17 1 ≤ 110 ∧ (Mt.Cl.mk (Mt.gn l 5 4) N (Mt.gn l 13 2) (Mt.gn l 15 2) ((l.drop 18).take (Mt.gn l 17 1))).sound = true ∧ (Mt.Cl.mk (Mt.gn l 5 4) N (Mt.gn l 13 2) (Mt.gn l 15 2) ((l.drop 18).take (Mt.gn l 17 1))).sector = l) := by unfold Mt.isCl; rw [hc0]
  clear hc0
  rw [hic]
  clear hic
  generalize Mt.gn l 17 1 = n at *
  generalize Mt.gn l 5 4 = G at *
  generalize Mt.gn l 13 2 = P at *
  generalize Mt.gn l 15 2 = Q at *
  generalize hB : (l.drop 18).take n = B at *
  clear hB
  have hno : (¬ (n ≤ 110 ∧ (Mt.Cl.mk G N P Q B).sound = true ∧ (Mt.Cl.mk G N P Q B).sector = l)) → (false = true ↔ (l.length = 128 ∧ l.getD 4 0 = 67 ∧ n ≤ 110 ∧ (Mt.Cl.mk G N P Q B).sound = true ∧ (Mt.Cl.mk G N P Q B).sector = l)) := fun hh =>
    ⟨fun e => (by cases e), fun ⟨_, _, a, b, c⟩ => (hh ⟨a, b, c⟩).elim⟩
  have hyes : n ≤ 110 → (Mt.Cl.mk G N P Q B).sound = true → (Mt.Cl.mk G N P Q B).sector = l → (true = true ↔ (l.length = 128 ∧ l.getD 4 0 = 67 ∧ n ≤ 110 ∧ (Mt.Cl.mk G N P Q B).sound = true ∧ (Mt.Cl.mk G N P Q B).sector = l)) := fun a b c =>
    ⟨fun _ => ⟨h, by rw [← c]; exact Mt.mark_sector _, a, b, c⟩, fun _ => rfl⟩
  have hs0 : (Mt.Cl.mk G N P Q B).sound = if G = 0 ∨ Q ≤ P then false else if P + 1 < Q then decide (B.length = 110) else (decide (0 < B.length) || decide (Q = 1)) := rfl
  rcases hz with ⟨h1⟩ | ⟨h1, h2⟩ | ⟨h1, h2, h3⟩ | ⟨h1, h2, h3, hc⟩ | ⟨h1, h2, h3, hc, h4, h5⟩ | ⟨h1, h2, h3, hc, h4, h5, h6⟩ | ⟨h1, h2, h3, hc, h4, h5⟩ | ⟨h1, h2, h3, hc, h4, h5⟩ | ⟨h1, h2, h3, hc, h4, h5, h6⟩
  · exact hno fun hh => by omega
  · exact hno fun hh => by rw [hs0, if_pos (.inl h2)] at hh; exact absurd hh.2.1 (by simp)
  · exact hno fun hh => by rw [hs0, if_pos (.inr h3)] at hh; exact absurd hh.2.1 (by simp)
  · exact hno fun hh => hc ((hcmp _).2 hh.2.2)
  · exact hno fun hh => by rw [hs0, if_neg (by omega), if_pos (by omega), hbl h1] at hh; simp at hh; omega
  · exact hno fun hh => by rw [hs0, if_neg (by omega), if_neg (by omega), hbl h1] at hh; simp at hh; omega
  · exact hyes h1 (by rw [hs0, if_neg (by omega), if_pos (by omega), hbl h1]; simpa using h5) ((hcmp _).1 hc)
  · exact hyes h1 (by rw [hs0, if_neg (by omega), if_neg (by omega), hbl h1]; simp; omega) ((hcmp _).1 hc)
  · exact hyes h1 (by rw [hs0, if_neg (by omega), if_neg (by omega), hbl h1]; simp; omega) ((hcmp _).1 hc)
/-- A sector read as a cell. -/
theorem rread_any (l : List UInt8) (w : World) (h : l.length = 128) : Calls Tryz.prog 43 #[.string (Mt.str l)] w fun e w' => e = .returned (.tuple #[.agg (rclV (Mt.rdCell l)), .bool (decide (Mt.isCl l))]) ∧ Below w.heap.size w w' := by
  obtain ⟨z, hz⟩ := rdWay (Mt.gn l 5 4) (Mt.gn l 13 2) (Mt.gn l 15 2) (Mt.gn l 17 1) (Mt.str (Mt.Cl.sector ⟨Mt.gn l 5 4, Mt.gn l 9 4, Mt.gn l 13 2, Mt.gn l 15 2, (l.drop 18).take (Mt.gn l 17 1)⟩)) (Mt.str l)
  have h1 := rread_way (Mt.str l) w (by rw [Mt.str_size, h]) _ _ _ _ _ _ rfl rfl rfl rfl rfl rfl z hz
  have h2 := hz.tells h rfl
  refine h1.mono fun e w' ⟨he, hb⟩ => ⟨?_, hb⟩
  rw [he]
  unfold rrdV Mt.rdCell
  by_cases hc : Mt.isCl l
  · rw [if_pos (h2.2 hc), if_pos hc, decide_eq_true hc]; rfl
  · rw [if_neg (fun e => hc (h2.1 e)), if_neg hc, decide_eq_false hc]
end Go.Proofs.YtnioagojiipjlaaGreat
