/-
  One buffer, a list of messages beside it: what of them goes on (append, Next).
-/
import Derived.Test.YtfnggifadhploaaFdP
import Derived.Test.YtfnggifadhploaaFdC
namespace Go.Proofs.Ytfnggifadhploaa
open Go.RowKit
section
variable {B : Nat} {wH w : World} {l : List UInt8} {e : Nat} {v : Value} {ms : List (List UInt8)}
theorem St.below {u : World} (h : St B wH w l e v ms) (hb : Below w.heap.size w u) (hB : B < w.heap.size) : St B wH u l e v ms := by
  obtain ⟨h1, h2, g, gm, a1, a2, a3, a4, a5, a6, a7⟩ := h
  refine ⟨h1, h2, g, gm, a1.below hb, a2.below hb, a3, a4, a5, a6, ⟨hb.os.trans a7.os, hb.tape.trans a7.tape, hb.output.trans a7.output, Nat.le_trans a7.size hb.size, fun k hk hS => (hb.block k (Nat.lt_of_lt_of_le hk a7.size)).trans (a7.block k hk hS)⟩⟩
/-- One message more. -/
theorem St.push (h : St B wH w l e v ms) (m : List UInt8) (s : ByteArray) (hs : s = Mt.str m) (hm : ms.length ≤ 1000000) :
    ∃ v' w', (∀ ty, (Builtin.append_ #[60, 60] ty #[v, .slice (some ⟨w.heap.size, 0, none⟩) 1 1]).run Try.prog (w.alloc (.cells #[.string s] 9)) = .ok v' w') ∧ St B wH w' l e v' (ms ++ [m]) := by
  have hbel := (Below.refl w.heap.size w).alloc (Nat.le_refl _) (.cells #[.string s] 9)
  have h' := h.below hbel h.lt
  have hr : IsRw 9 1 (w.alloc (.cells #[.string s] 9)) w.heap.size (.slice (some ⟨w.heap.size, 0, none⟩) 1 1) [m].length (Mt.svs [m]) := by
    refine ⟨by simp [Mt.svs], .inr ⟨0, 1, _, rfl, heap_alloc_new w _, Nat.le_refl _, by simp, fun j hj => ?_⟩⟩
    have : j = 0 := by simp [Mt.svs] at hj; omega
    subst this
    simp [Mt.svs, hs]
  obtain ⟨v7, w7, hrun, hst⟩ := h'.app hr (by simp; omega)
  exact ⟨v7, w7, hrun, hst⟩
/-- The next message is taken. -/
theorem St.next {m r : List UInt8} (h : St B wH w (m ++ r) 0 v ms) (hc : Mt.cutL (m ++ r) = (m.length, 0)) (hm : m.length ≠ 0) :
    Calls Try.prog 33 #[.pointer (some ⟨B, 0, none⟩)] w fun x w' => x = .returned (.tuple #[.string (Mt.str m), .bool true, .int .i64 0]) ∧ St B wH w' r 0 v ms := by
  have hl := h.2.1
  obtain ⟨g, gm, h1, h2, h3, h4, h5, h6, h7, h8, h9⟩ := h.norm
  refine (bnext_msg h1 (by omega) (by rw [hc]) (by rw [hc]; exact hm)).mono ?_
  rintro x w' ⟨rfl, hb, ho⟩
  rw [hc] at hb
  simp only [List.take_left', List.drop_left'] at hb ⊢
  refine ⟨by rw [hc]; simp, St.step h2 h3 h4 h5 h6 h7 h9 hb (.inl rfl) ho (fun hh => absurd rfl hh) ?_⟩
  rw [List.length_append] at hl; omega
end
end Go.Proofs.Ytfnggifadhploaa
