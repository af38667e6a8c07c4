/-
  What castellanlaw09.awake comes to.
-/
import Derived.Test.YthpedokhalndjabDnN
namespace Go.Proofs.Ythpedokhalndjab
open Go.RowKit

instance Mt.decExc {α : Type} [DecidableEq α] : DecidableEq (Except Nat α) := fun a b => match a, b with
  | .error x, .error y => if h : x = y then isTrue (by rw [h]) else isFalse (fun e => h (by cases e; rfl))
  | .ok x, .ok y => if h : x = y then isTrue (by rw [h]) else isFalse (fun e => h (by cases e; rfl))
  | .error _, .ok _ => isFalse (fun e => by cases e)
  | .ok _, .error _ => isFalse (fun e => by cases e)
theorem Mt.ex1 : Mt.dnL [99, 110, 61, 65, 32, 32, 98, 43, 111, 117, 61, 88, 44, 100, 99, 61, 122] = .ok [[([99, 110], [65, 32, 32, 98]), ([111, 117], [88])], [([100, 99], [122])]] := by decide +kernel
theorem Mt.ex2 : Mt.keyD [[([99, 110], [65, 32, 32, 98]), ([111, 117], [88])], [([100, 99], [122])]] = .ok [99, 110, 61, 97, 32, 98, 43, 111, 117, 61, 120, 44, 100, 99, 61, 122] := by
  have hp : Mt.printD [[([99, 110], [65, 32, 32, 98]), ([111, 117], [88])], [([100, 99], [122])]] = .ok [99, 110, 61, 65, 32, 32, 98, 43, 111, 117, 61, 88, 44, 100, 99, 61, 122] := by decide +kernel
  have h1 : Mt.normL [([99, 110], [65, 32, 32, 98]), ([111, 117], [88])] = [[99, 110, 61, 97, 32, 98], [111, 117, 61, 120]] := by
    unfold Mt.normL
    rw [List.mergeSort_of_pairwise (by decide +kernel)]; decide +kernel
  have h2 : Mt.normL [([100, 99], [122])] = [[100, 99, 61, 122]] := by
    unfold Mt.normL
    rw [List.mergeSort_of_pairwise (by decide +kernel)]; decide +kernel
  unfold Mt.keyD Mt.textL
  rw [hp]
  simp only [List.map_cons, List.map_nil, h1, h2]
  decide +kernel
theorem Mt.ex3 : Mt.dnL [99, 110, 61, 32, 97] = .error 4 := by decide +kernel
theorem Mt.ex4 : Mt.dnL [99, 110, 61, 92, 32, 97] = .ok [[([99, 110], [32, 97])]] := by decide +kernel

set_option maxRecDepth 100000 in
set_option maxHeartbeats 1000000 in
theorem awake9_any (w : World) : Calls Try.prog 22 #[] w fun e w' => e = .returned (.bool true) ∧ Below w.heap.size w w' := by
  have H1 := Lib.hid (dparse_any ⟨#[99, 110, 61, 65, 32, 32, 98, 43, 111, 117, 61, 88, 44, 100, 99, 61, 122]⟩ w (by simp [ByteArray.size]))
  have H3 := Lib.hid (fun u => dparse_any ⟨#[99, 110, 61, 32, 97]⟩ u (by simp [ByteArray.size]))
  have H4 := Lib.hid (fun u => dparse_any ⟨#[99, 110, 61, 92, 32, 97]⟩ u (by simp [ByteArray.size]))
  have e1 : Mt.dnL (⟨#[99, 110, 61, 65, 32, 32, 98, 43, 111, 117, 61, 88, 44, 100, 99, 61, 122]⟩ : ByteArray).data.toList = _ := Mt.ex1
  have e3 : Mt.dnL (⟨#[99, 110, 61, 32, 97]⟩ : ByteArray).data.toList = _ := Mt.ex3
  have e4 : Mt.dnL (⟨#[99, 110, 61, 92, 32, 97]⟩ : ByteArray).data.toList = _ := Mt.ex4
  unfold ParsP at H1 H3 H4
  rw [e1] at H1
  rw [e3] at H3
  rw [e4] at H4
  have h4 : ((4 : Nat) : Int) = 4 := rfl
  simp only [h4] at H3
  clear h4
  clear e1 e3 e4
  go_enter Try.func22, Try.ntmps22
  go_wp2_with fail
  refine (H1.out).mono ?_
  rintro x w2 ⟨hb, v, rfl, hdn⟩
  have HN := Lib.hid (norm_any hdn)
  rw [Mt.ex2] at HN
  unfold textV at HN
  unfold Mt.str at HN
  obtain ⟨va, vc, rfl, _⟩ := hdn
  have HB2 := Lib.hid hb
  clear hb
  go_wp2_with fail
  refine (HN.out).mono ?_
  rintro x w3 ⟨rfl, hb⟩
  have HB3 := Lib.hid (HB2.out.trans (hb.mono HB2.out.size))
  clear hb
  go_wp2_with fail
  refine (H3.out _).mono ?_
  rintro x w4 ⟨hb, rfl⟩
  have HB4 := Lib.hid (HB3.out.trans (hb.mono HB3.out.size))
  clear hb
  go_wp2_with fail
  refine (H4.out _).mono ?_
  rintro x w5 ⟨hb, v4, rfl, a4, c4, rfl, _, _, h5⟩
  have HB5 := Lib.hid (HB4.out.trans (hb.mono HB4.out.size))
  rcases h5 with h5 | ⟨b, off, rfl, _, h6⟩
  · cases h5
  obtain ⟨x0, hx0, a6, c6, rfl, _, _, h7⟩ := h6 0 (by simp)
  rcases h7 with h7 | ⟨b2, off2, rfl, _, h8⟩
  · simp at h7
  obtain ⟨_, q2⟩ := h8 0 (by simp)
  have q2' : w5.cell? ⟨b2, off2 + 1, none⟩ = some (.string ⟨#[32, 97]⟩) := by
    have := q2; simpa [Mt.str] using this
  have hx0' : w5.cell? ⟨b, off, none⟩ = some (.slice (some ⟨b2, off2, none⟩) 1 c6) := by simpa using hx0
  clear hb h6 h8 q2 hx0
  go_wp2_with fail
  go_ret
  exact ⟨rfl, HB5.out⟩
end Go.Proofs.Ythpedokhalndjab
