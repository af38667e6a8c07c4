/-
  Any act of the program's disk and of the document's, side by side.
-/
import Derived.Test.YtlknfgomagmpcaaDrK
namespace Go.Proofs.Ytlknfgomagmpcaa
open Go.RowKit Go.Maps

section
variable {base : Nat} {w u x : World} {B bl bm : Nat} {g : Rg} {t : Nat} {d d' : Mt.Dk}
theorem tmod11 (D : Int) : -10 ≤ D.tmod 11 ∧ D.tmod 11 ≤ 10 := by
  have h1 := Int.tmod_lt_of_pos D (show (0 : Int) < 11 by decide)
  have h2 := Int.lt_tmod_of_pos D (show (0 : Int) < 11 by decide)
  omega
theorem do_any (h : Both base w B bl bm g t d) (ht : t < 1000) (D I N : Int) (S : ByteArray) (K : Nat) (T A : Int) (hN : N ≤ 9223372036854775807) (hK : K < 18446744073709551616) (hT : -9223372036854775808 ≤ T ∧ T ≤ 9223372036854775807) (hA : -9223372036854775808 ≤ A ∧ A ≤ 9223372036854775807) :
    Calls Try.prog 13 #[.pointer (some ⟨B, 0, none⟩), .pointer (some ⟨g.R, 0, none⟩), .agg #[.int .i64 D, .int .i64 I, .int .i64 N, .string S, .int .u64 (K : Int), .int .i64 T, .int .i64 A]] w (DoPost base w B bl bm g t) := by
  obtain ⟨h1, h2⟩ := tmod11 D
  by_cases e1 : D.tmod 11 = 1 ∨ D.tmod 11 = -1
  · exact do_read h D I N S K T A e1
  by_cases e2 : D.tmod 11 = 2 ∨ D.tmod 11 = -2 ∨ D.tmod 11 = 3 ∨ D.tmod 11 = -3
  · exact do_flush h ht D I N S K T A hN hK hT hA e2
  by_cases e4 : D.tmod 11 = 4 ∨ D.tmod 11 = -4
  · exact do_limit h ht D I N S K T A hN hK hT hA e4
  by_cases e5 : D.tmod 11 = 5 ∨ D.tmod 11 = -5
  · exact do_crash h ht D I N S K T A hN hK hT hA e5
  by_cases e6 : D.tmod 11 = 6 ∨ D.tmod 11 = -6
  · exact do_cut h ht D I N S K T A hN hK hT hA e6
  by_cases e7 : D.tmod 11 = 7 ∨ D.tmod 11 = -7
  · exact do_on h ht D I N S K T A hN hK hT hA e7
  by_cases e8 : D.tmod 11 = 8 ∨ D.tmod 11 = -8
  · exact do_lay h ht D I N S K T A hN hK hT hA e8
  have hb : ∀ c : Int, D.tmod 11 ≠ c → (D.tmod 11 == c) = false := fun c hc => by simpa using hc
  exact do_write h ht D I N S K T A (D.tmod 11) rfl (hb 1 (by omega)) (hb (-1) (by omega)) (hb 2 (by omega)) (hb (-2) (by omega)) (hb 3 (by omega)) (hb (-3) (by omega)) (hb 4 (by omega)) (hb (-4) (by omega)) (hb 5 (by omega)) (hb (-5) (by omega)) (hb 6 (by omega)) (hb (-6) (by omega)) (hb 7 (by omega)) (hb (-7) (by omega)) (hb 8 (by omega)) (hb (-8) (by omega))

theorem Both.new {w2 w3 : World} {n : Nat} (h1 : IsDisk w2 B bl bm (Mt.Dk.new n)) (hB : base ≤ B ∧ base ≤ bl ∧ base ≤ bm) (hs : base ≤ w2.heap.size) (h2 : w2.heap.size ≤ g.R ∧ w2.heap.size ≤ g.bl ∧ w2.heap.size ≤ g.bw) (hg : g.bl < g.D ∧ g.bw < g.D ∧ g.P = g.R ∧ g.D = w3.heap.size) (h3 : IsR w3 g 0 (Mt.Dk.new n)) (hb : Below w2.heap.size w2 w3) : Both base w3 B bl bm g 0 (Mt.Dk.new n) := by
  have a := h1.ltB
  have b := h1.ltL
  have c := h1.ltM
  have e := hb.size
  have hr : g.R < g.D := by
    obtain ⟨_, _, _, _, _, h, _⟩ := h3
    exact h.ltR
  refine ⟨h1.below hb, h3, Mt.calm_new n, ⟨by omega, by omega, by omega⟩, fun x hx => ?_, ⟨hB.1, hB.2.1, hB.2.2, by omega, by omega, by omega, by omega⟩, hg.2.2.1, hg.1, hg.2.1⟩
  simp only [List.mem_cons, List.not_mem_nil, or_false] at hx
  rcases hx with rfl | rfl | rfl <;> exact ⟨by omega, by omega, by omega⟩
end

/-! ### the script -/
/-- A script's acts, as they lie. -/
structure Ac where
  D : Int
  I : Int
  N : Int
  S : ByteArray
  K : Nat
  T : Int
  A : Int
def Ac.cells (a : Ac) : Array Value := #[.int .i64 a.D, .int .i64 a.I, .int .i64 a.N, .string a.S, .int .u64 (a.K : Int), .int .i64 a.T, .int .i64 a.A]
def Ac.Ok (a : Ac) : Prop := a.N ≤ 9223372036854775807 ∧ a.K < 18446744073709551616 ∧ (-9223372036854775808 ≤ a.T ∧ a.T ≤ 9223372036854775807) ∧ (-9223372036854775808 ≤ a.A ∧ a.A ≤ 9223372036854775807)
def IsActs (w : World) (b off n : Nat) (f : Nat → Ac) : Prop := ∀ i, i < n → (f i).Ok ∧ ∀ j v, (f i).cells[j]? = some v → w.cell? ⟨b, off + i * 7 + j, none⟩ = some v
theorem IsActs.below {w u : World} {b off n : Nat} {f : Nat → Ac} (h : IsActs w b off n f) (hb : Below w.heap.size w u) : IsActs u b off n f := fun i hi => ⟨(h i hi).1, fun j v hj => by
  have hc := (h i hi).2 j v hj
  rw [hb.cell (p := ⟨b, off + i * 7 + j, none⟩) (World.block_lt_of_cell? w _ hc)]
  exact hc⟩
theorem IsActs.load {w : World} {b off n : Nat} {f : Nat → Ac} (h : IsActs w b off n f) (i : Nat) (hi : i < n) : (loadVar 32 ⟨b, off + i * 7, none⟩).run Try.prog w = .ok (.agg (f i).cells) w := by
  refine run_loadVar_cells w 32 ⟨b, off + i * 7, none⟩ (f i).cells _ (fun j v hv => ?_) Try.underlying32 rfl (by kernel_rfl)
  rw [add_off]
  exact (h i hi).2 j v (by simpa using hv)
end Go.Proofs.Ytlknfgomagmpcaa
