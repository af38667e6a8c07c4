/-
  What crc.Sum comes to.
-/
import Derived.Test.YtmahkgkhnpffeaaCrc
import Derived.Deep.AppendLies
namespace Go.Proofs.Ytmahkgkhnpffeaa
open Go.RowKit

theorem sum_nil (a : Option Addr) (cap : Nat) (w : World) : Calls Try.prog 61 #[.slice a 0 cap] w fun e w' => e = .returned (.int .u32 (Mt.addS 0 [])) ∧ w = w' := by
  have HA := Lib.hid (fun u => add_nil 0 a cap u (by omega))
  go_enter Try.func61, Try.ntmps61
  go_wp2_with fail
  refine (HA.out _).mono ?_
  rintro e w' ⟨rfl, rfl⟩
  go_wp2_with fail
  go_ret
  exact ⟨rfl, rfl⟩

theorem sum_some (b off cap : Nat) (ss : List ByteArray) (w : World) (hn : ss.length ≤ 9223372036854775807) (hs : ∀ p ∈ ss, p.size ≤ 9223372036854775807)
    (hc : ∀ i (hi : i < ss.length), w.cell? ⟨b, off + i, none⟩ = some (.string ss[i])) :
    Calls Try.prog 61 #[.slice (some ⟨b, off, none⟩) ss.length cap] w fun e w' => e = .returned (.int .u32 (Mt.addS 0 (Mt.cat ss))) ∧ w = w' := by
  have HA := Lib.hid (add_some 0 b off cap ss w (by omega) hn hs hc)
  clear hn hs hc
  go_enter Try.func61, Try.ntmps61
  go_wp2_with fail
  refine (HA.out).mono ?_
  rintro e w' ⟨rfl, rfl⟩
  go_wp2_with fail
  go_ret
  exact ⟨rfl, rfl⟩

/-- Sum of one text that was just laid. -/
theorem sum_one (s : ByteArray) (B : Nat) (w : World) (hB : B = w.heap.size) (hs : s.size ≤ 9223372036854775807) :
    Calls Try.prog 61 #[.slice (some ⟨B, 0, none⟩) 1 1] (w.alloc (.cells #[.string s] 9)) fun e w' => e = .returned (.int .u32 (Mt.addS 0 s.data.toList)) ∧ (w.alloc (.cells #[.string s] 9)) = w' := by
  subst hB
  have h := sum_some w.heap.size 0 1 [s] (w.alloc (.cells #[.string s] 9)) (by simp) (by simpa using hs) (fun i hi => by
    obtain rfl : i = 0 := by simpa using hi
    exact cell_one_new w (.string s) 9 0 (.string s) rfl)
  have e : Mt.cat [s] = s.data.toList := by simp [Mt.cat]
  rwa [e] at h
theorem cell_two (w : World) (x y : Value) (t : TypeId) (i : Nat) (hi : i < 2) : (w.alloc (.cells #[x, y] t)).cell? ⟨w.heap.size, 0 + i, none⟩ = some ([x, y][i]'hi) := by
  have h := World.news_of_block (w := w.alloc (.cells #[x, y] t)) (B := w.heap.size) (cs := #[x, y]) (t := t) (fr := (0, 0)) (heap_alloc_new w _) i ([x, y][i]'hi) (by
    match i, hi with
    | 0, _ => rfl
    | 1, _ => rfl)
  have e : (⟨w.heap.size, 0, none⟩ : Addr).add i = ⟨w.heap.size, 0 + i, none⟩ := by unfold Addr.add; split <;> simp_all
  rwa [e] at h
theorem sum_two (s t : ByteArray) (B : Nat) (w : World) (hB : B = w.heap.size) (hs : s.size ≤ 9223372036854775807) (ht : t.size ≤ 9223372036854775807) :
    Calls Try.prog 61 #[.slice (some ⟨B, 0, none⟩) 2 2] (w.alloc (.cells #[.string s, .string t] 9)) fun e w' => e = .returned (.int .u32 (Mt.addS 0 (Mt.cat [s, t]))) ∧ (w.alloc (.cells #[.string s, .string t] 9)) = w' := by
  subst hB
  exact sum_some w.heap.size 0 2 [s, t] (w.alloc (.cells #[.string s, .string t] 9)) (by simp) (by simp; exact ⟨hs, ht⟩) (fun i hi => by
    rw [cell_two w _ _ _ i hi]
    match i, hi with
    | 0, _ => rfl
    | 1, _ => rfl)

end Go.Proofs.Ytmahkgkhnpffeaa
