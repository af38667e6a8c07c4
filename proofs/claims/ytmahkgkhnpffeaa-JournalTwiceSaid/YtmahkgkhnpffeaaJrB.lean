/-
  What the journal's calls on cells come to: sound.
-/
import Derived.Test.YtmahkgkhnpffeaaJrA
namespace Go.Proofs.Ytmahkgkhnpffeaa
open Go.RowKit

/-- A cell as a value. -/
def clV (c : Mt.Cl) : Array Value := #[.int .u64 (c.gen : Int), .int .u64 (c.number : Int), .int .i64 (c.part : Int), .int .i64 (c.parts : Int), .string (Mt.str c.body)]
theorem box5_of {w : World} {b : Nat} {x y z u v : Value} {T : TypeId} {fr : Nat × Nat} (h : w.heap[b]? = some (.cells #[x, y, z, u, v] T fr)) : w.cell? ⟨b, 0, none⟩ = some x ∧ w.cell? ⟨b, 1, none⟩ = some y ∧ w.cell? ⟨b, 2, none⟩ = some z ∧ w.cell? ⟨b, 3, none⟩ = some u ∧ w.cell? ⟨b, 4, none⟩ = some v := by
  simp [World.cell?, h]
theorem alloc5 (w : World) (x y z u v : Value) (T : TypeId) : ∀ u', Below (w.alloc (.cells #[x, y, z, u, v] T)).heap.size (w.alloc (.cells #[x, y, z, u, v] T)) u' → u'.heap[w.heap.size]? = some (.cells #[x, y, z, u, v] T (0, 0)) :=
  fun u' hb => (hb.block _ (by simp)).trans (heap_alloc_new w _)

set_option maxRecDepth 100000 in
theorem sound_any (c : Mt.Cl) (hf : c.Fits) (w : World) : Calls Try.prog 50 #[.agg (clV c)] w fun e w' => e = .returned (.bool c.sound) ∧ Below w.heap.size w w' := by
  obtain ⟨g, n, p, q, b⟩ := c
  obtain ⟨h1, h2, h3, h4, h5⟩ := hf
  simp only at h1 h2 h3 h4 h5
  have HR := Lib.hid (show (Mt.Cl.mk g n p q b).sound = (if g = 0 ∨ q ≤ p then false else if p + 1 < q then decide (b.length = 110) else (decide (0 < b.length) || decide (q = 1))) from rfl)
  have HB := Lib.hid ((Below.refl w.heap.size w).alloc (Nat.le_refl _) (.cells #[.int .u64 (g : Int), .int .u64 (n : Int), .int .i64 (p : Int), .int .i64 (q : Int), .string (Mt.str b)] 65))
  obtain ⟨c0, c1, c2, c3, c4⟩ := box5_of (heap_alloc_new w (.cells #[.int .u64 (g : Int), .int .u64 (n : Int), .int .i64 (p : Int), .int .i64 (q : Int), .string (Mt.str b)] 65))
  have HS := Lib.hid (Mt.str_size b)
  generalize (Mt.Cl.mk g n p q b).sound = r at HR ⊢
  unfold clV
  simp only
  generalize Mt.str b = S at *
  by_cases hg : g = 0
  · have hd : ((g : Int) == 0) = true := by simp [hg]
    have HG := Lib.hid hg
    clear hg
    go_enter Try.func50, Try.ntmps50
    go_wp2_with fail
    go_ret
    exact ⟨Mt.ret_bool (by rw [HR.out, if_pos (.inl HG.out)]), HB.out⟩
  · have hd : ((g : Int) == 0) = false := by simp; omega
    by_cases hp : q ≤ p
    · have hd2 : decide (q ≤ p) = true := decide_eq_true hp
      have hd3 : decide ((q : Int) ≤ (p : Int)) = true := decide_eq_true (by omega)
      have HG := Lib.hid hp
      clear hp hg
      go_enter Try.func50, Try.ntmps50
      go_wp2_with fail
      go_ret
      exact ⟨Mt.ret_bool (by rw [HR.out, if_pos (.inr HG.out)]), HB.out⟩
    · have hd2 : decide (q ≤ p) = false := decide_eq_false hp
      have hd3 : decide ((q : Int) ≤ (p : Int)) = false := decide_eq_false (by omega)
      have hq1 : 1 ≤ q := by omega
      by_cases hl : p + 1 < q
      · have hd4 : decide ((p : Int) < (q : Int) - 1) = true := decide_eq_true (by omega)
        have HG := Lib.hid hp
        have HQ := Lib.hid hg
        have HL := Lib.hid hl
        clear hp hg hl
        go_enter Try.func50, Try.ntmps50
        go_wp2_with fail
        go_ret
        exact ⟨Mt.ret_bool (by rw [HR.out, if_neg (by have := HG.out; have := HQ.out; omega), if_pos HL.out, ← HS.out]; rw [Bool.eq_iff_iff]; simp; omega), HB.out⟩
      · have hd4 : decide ((p : Int) < (q : Int) - 1) = false := decide_eq_false (by omega)
        have HG := Lib.hid hp
        have HQ := Lib.hid hg
        have HL := Lib.hid hl
        clear hp hg hl
        have HX := Lib.hid (show (if g = 0 ∨ q ≤ p then false else if p + 1 < q then decide (b.length = 110) else (decide (0 < b.length) || decide (q = 1))) = (decide (0 < b.length) || decide (q = 1)) by rw [if_neg (by have := HG.out; have := HQ.out; omega), if_neg HL.out])
        by_cases h0 : 0 < S.size
        · have hd5 : decide (0 < S.size) = true := decide_eq_true h0
          have HS0 := Lib.hid h0
          clear h0
          go_enter Try.func50, Try.ntmps50
          go_wp2_with fail
          go_ret
          exact ⟨Mt.ret_bool (by rw [HR.out, HX.out, ← HS.out]; have := HS0.out; simp; omega), HB.out⟩
        · have hd5 : decide (0 < S.size) = false := decide_eq_false h0
          have HS0 := Lib.hid h0
          clear h0
          go_enter Try.func50, Try.ntmps50
          go_wp2_with fail
          go_ret
          exact ⟨Mt.ret_bool (by rw [HR.out, HX.out, ← HS.out]; have := HS0.out; rw [Bool.eq_iff_iff]; simp; omega), HB.out⟩
end Go.Proofs.Ytmahkgkhnpffeaa
