/-
  A slice of texts that came in; and the sums of joined parts.
-/
import Derived.Test.YtfcfhfaccpiffaaRCrc
namespace Go.Proofs.Ytfcfhfaccpiffaa
open Go.RowKit

/-- A slice of texts: it is empty, or leads to cells that hold them. -/
def IsStrs (w : World) (a : Option Addr) (n : Nat) (ss : List ByteArray) : Prop :=
  ss.length = n ∧ (n = 0 ∨ ∃ b off, a = some ⟨b, off, none⟩ ∧ ∀ i (hi : i < ss.length), w.cell? ⟨b, off + i, none⟩ = some (.string ss[i])) ∧ ∀ p ∈ ss, p.size ≤ maxLen

theorem not_far_short (ss : List ByteArray) (h : ∀ k, k < ss.length → ¬ Far ss k) : (Mt.cat ss).length ≤ 20000 := by
  rcases Nat.eq_zero_or_pos ss.length with h0 | h0
  · have : ss = [] := List.eq_nil_of_length_eq_zero h0
    subst this; simp [Mt.cat]
  · have hk := h (ss.length - 1) (by omega)
    unfold Far at hk
    have hc := Mt.cat_snoc ss (ss.length - 1) (by omega)
    rw [show ss.length - 1 + 1 = ss.length by omega, List.take_of_length_le (Nat.le_refl _)] at hc
    rw [hc, List.length_append]
    have e : ss.getD (ss.length - 1) ByteArray.empty = ss[ss.length - 1] := by simp [List.getD, List.getElem?_eq_getElem (show ss.length - 1 < ss.length by omega)]
    rw [e] at hk
    have e2 : (ss[ss.length - 1]).data.toList.length = (ss[ss.length - 1]).size := rfl
    omega
theorem not_far_few (ss : List ByteArray) (h : ∀ k, k < ss.length → ¬ Far ss k) : ss.length ≤ 100 := by
  rcases Nat.eq_zero_or_pos ss.length with h0 | h0
  · omega
  · have hk := h 0 h0
    unfold Far at hk
    omega

/-- What joined, crc.Add and crc.Sum come to, of one slice of texts; in the world as it was, and wherever new blocks alone came. -/
theorem joined_of {w : World} {a : Option Addr} {n : Nat} {ss : List ByteArray} (cap : Nat) (h : IsStrs w a n ss) (hn : n ≤ 9223372036854775807) :
    ∃ (S : ByteArray) (B : Bool), (B = true → S = Mt.str (Mt.cat ss) ∧ S.size ≤ 20000) ∧
      Calls Try.prog 27 #[.slice a n cap] w fun e w' => e = .returned (.tuple #[.string S, .bool B]) ∧ w = w' := by
  obtain ⟨hl, h1, h2⟩ := h
  rcases h1 with rfl | ⟨b, off, rfl, hc⟩
  · have : ss = [] := List.eq_nil_of_length_eq_zero hl
    subst this
    exact ⟨ByteArray.empty, true, fun _ => ⟨rfl, by simp⟩, joined_nil a cap w⟩
  · subst hl
    by_cases hf : ∃ k, k < ss.length ∧ Far ss k
    · exact ⟨ByteArray.empty, false, (fun h => absurd h (by decide)), joined_any b off cap ss _ _ w hn hc (.inr ⟨hf, rfl, rfl⟩)⟩
    · have hf' : ∀ k, k < ss.length → ¬ Far ss k := fun k hk hh => hf ⟨k, hk, hh⟩
      exact ⟨Mt.str (Mt.cat ss), true, fun _ => ⟨rfl, by rw [Mt.str_size]; exact not_far_short ss hf'⟩, joined_any b off cap ss _ _ w hn hc (.inl ⟨hf', rfl, rfl⟩)⟩

theorem add_of {w : World} {a : Option Addr} {n : Nat} {ss : List ByteArray} (sum cap : Nat) (h : IsStrs w a n ss) (hn : n ≤ 9223372036854775807) (hs : sum < 4294967296) (u : World) (hb : Below w.heap.size w u) :
    Calls Try.prog 31 #[.int .u32 sum, .slice a n cap] u fun e w' => e = .returned (.int .u32 (Mt.addS sum (Mt.cat ss))) ∧ u = w' := by
  obtain ⟨hl, h1, h2⟩ := h
  rcases h1 with rfl | ⟨b, off, rfl, hc⟩
  · have : ss = [] := List.eq_nil_of_length_eq_zero hl
    subst this
    have e : Mt.addS sum (Mt.cat []) = sum := Mt.addS_nil hs
    rw [e]
    exact add_nil sum a cap u hs
  · subst hl
    exact add_some sum b off cap ss u hs hn (fun p hp => by have := h2 p hp; unfold maxLen at this; omega) (fun i hi => by
      have hblk : b < w.heap.size := World.block_lt_of_cell? w ⟨b, off + i, none⟩ (hc i hi)
      rw [hb.cell (p := ⟨b, off + i, none⟩) hblk]
      exact hc i hi)

theorem sum_of {w : World} {a : Option Addr} {n : Nat} {ss : List ByteArray} (cap : Nat) (h : IsStrs w a n ss) (hn : n ≤ 9223372036854775807) (u : World) (hb : Below w.heap.size w u) :
    Calls Try.prog 29 #[.slice a n cap] u fun e w' => e = .returned (.int .u32 (Mt.addS 0 (Mt.cat ss))) ∧ u = w' := by
  have HA := Lib.hid (add_of 0 cap h hn (by omega) u hb)
  clear h hb hn
  go_enter Try.func29, Try.ntmps29
  go_wp2_with fail
  refine (HA.out).mono ?_
  rintro e w' ⟨rfl, rfl⟩
  go_wp2_with fail
  go_ret
  exact ⟨rfl, rfl⟩

end Go.Proofs.Ytfcfhfaccpiffaa
