/-
  Cells in a slice; what greatest comes to.
-/
import Derived.Test.YtmahkgkhnpffeaaJrO
namespace Go.Proofs.Ytmahkgkhnpffeaa
open Go.RowKit

/-- A cell lies there. -/
def CellAt (w : World) (b o : Nat) (c : Mt.Cl) : Prop :=
  w.cell? ⟨b, o, none⟩ = some (.int .u64 (c.gen : Int)) ∧ w.cell? ⟨b, o + 1, none⟩ = some (.int .u64 (c.number : Int)) ∧ w.cell? ⟨b, o + 2, none⟩ = some (.int .i64 (c.part : Int)) ∧ w.cell? ⟨b, o + 3, none⟩ = some (.int .i64 (c.parts : Int)) ∧ w.cell? ⟨b, o + 4, none⟩ = some (.string (Mt.str c.body))
theorem CellAt.below {w u : World} {b o : Nat} {c : Mt.Cl} (h : CellAt w b o c) (hb : b < w.heap.size) (hu : Below w.heap.size w u) : CellAt u b o c :=
  ⟨(hu.cell (p := ⟨b, o, none⟩) hb).trans h.1, (hu.cell (p := ⟨b, o + 1, none⟩) hb).trans h.2.1, (hu.cell (p := ⟨b, o + 2, none⟩) hb).trans h.2.2.1, (hu.cell (p := ⟨b, o + 3, none⟩) hb).trans h.2.2.2.1, (hu.cell (p := ⟨b, o + 4, none⟩) hb).trans h.2.2.2.2⟩
/-- Cells in a slice. -/
def IsCls (w : World) (v : Value) (ls : List Mt.Cl) : Prop :=
  ∃ a cap, v = .slice a ls.length cap ∧ ls.length ≤ cap ∧ (ls = [] ∨ ∃ b off, a = some ⟨b, off, none⟩ ∧ b < w.heap.size ∧ ∀ j (hj : j < ls.length), CellAt w b (off + j * 5) ls[j])
theorem IsCls.below {w u : World} {v : Value} {ls : List Mt.Cl} (h : IsCls w v ls) (hb : Below w.heap.size w u) : IsCls u v ls := by
  obtain ⟨a, cap, h1, h2, h4⟩ := h
  refine ⟨a, cap, h1, h2, ?_⟩
  rcases h4 with h4 | ⟨b, off, h5, h6, h7⟩
  · exact .inl h4
  · exact .inr ⟨b, off, h5, Nat.lt_of_lt_of_le h6 hb.size, fun i hi => (h7 i hi).below h6 hb⟩
theorem Mt.greatest_snoc (l : List Mt.Cl) (c : Mt.Cl) (a b : Nat) : Mt.greatest (l ++ [c]) a b = max (Mt.greatest l a b) c.gen := by simp [Mt.greatest]
theorem Mt.greatest_lt (l : List Mt.Cl) (a b : Nat) (hl : ∀ c ∈ l, c.gen < 4294967296) (ha : a < 4294967296) (hb : b < 4294967296) : Mt.greatest l a b < 4294967296 := by
  unfold Mt.greatest
  have : ∀ (l : List Mt.Cl) (m : Nat), m < 4294967296 → (∀ c ∈ l, c.gen < 4294967296) → l.foldl (fun m c => max m c.gen) m < 4294967296 := by
    intro l
    induction l with
    | nil => intro m hm _; exact hm
    | cons c r ih =>
      intro m hm h
      have := h c (List.mem_cons_self ..)
      exact ih _ (by show max m c.gen < _; omega) (fun x hx => h x (List.mem_cons_of_mem _ hx))
  exact this l _ (by omega) hl
theorem Mt.max_cast (a b : Nat) : ((max a b : Nat) : Int) = max (a : Int) (b : Int) := by omega
section
variable {w u : World}
set_option maxRecDepth 100000 in
theorem greatest_any {v : Value} {ls : List Mt.Cl} (hv : IsCls w v ls) (hn : ls.length ≤ 9223372036854775807) (a b : Nat) :
    Calls Try.prog 36 #[v, .int .u64 (a : Int), .int .u64 (b : Int)] w fun e w' => e = .returned (.int .u64 (Mt.greatest ls a b : Int)) ∧ Below w.heap.size w w' := by
  have HV := Lib.hid (fun u (hb : Below w.heap.size w u) => hv.below hb)
  have HG0 := Lib.hid (show Mt.greatest (ls.take 0) a b = max a b by simp [Mt.greatest])
  have HGF := Lib.hid (show Mt.greatest (ls.take ls.length) a b = Mt.greatest ls a b by rw [List.take_length])
  have HGS := Lib.hid (fun k (hk : k < ls.length) => show Mt.greatest (ls.take (k + 1)) a b = max (Mt.greatest (ls.take k) a b) ls[k].gen by rw [List.take_succ_eq_append_getElem hk, Mt.greatest_snoc])
  obtain ⟨ad, cap, rfl, hc, h4⟩ := hv
  have HX : Hid (∀ k (hk : k < ls.length) u, Below w.heap.size w u → ∃ blk off, ad = some ⟨blk, off, none⟩ ∧ CellAt u blk (off + k * 5) ls[k]) := Lib.hid (fun k hk u hb => by
    rcases h4 with h4 | ⟨b, off, h5, h6, h7⟩
    · subst h4; simp at hk
    · exact ⟨b, off, h5, (h7 k hk).below h6 hb⟩)
  clear h4 hc
  generalize hgl : Mt.greatest ls a b = R at *
  clear hgl
  obtain ⟨n, hnn⟩ : ∃ n, ls.length = n := ⟨_, rfl⟩
  have HN := Lib.hid hnn
  rw [hnn] at hn HV HGF ⊢
  clear hnn
  have HB0 := Lib.hid (Below.refl w.heap.size w)
  skip
  all_goals
    go_enter Try.func36, Try.ntmps36
    go_wp2_with fail
    go_loopw [7, 9, 15] (fun m _ i wr => ∃ k : Nat, k ≤ n ∧ i = .int .i64 k ∧ m = .int .u64 (Mt.greatest (ls.take k) a b : Int) ∧ Hid (Below w.heap.size w wr)) (fun _ _ i _ => n - (intOf i).toNat)
    case atStart => exact ⟨0, Nat.zero_le _, rfl, by rw [HG0.out, Mt.max_cast], HB0⟩
    case round =>
      obtain ⟨k, hk, rfl, rfl, HB⟩ := hrel
      by_cases hlt : k < n
      · have hkl : k < ls.length := by rw [HN.out]; exact hlt
        obtain ⟨blk, off, rfl, hca⟩ := HX.out k hkl _ HB.out
        obtain ⟨k0, k1, k2, k3, k4⟩ := hca
        have HS := Lib.hid (HGS.out k hkl)
        go_wp2_with fail
        go_roundw
        case rel => exact ⟨k + 1, by omega, by go_num, by rw [HS.out, Mt.max_cast], Lib.hid (HB.out.alloc HB.out.size _)⟩
        case measure => simp [intOf]; omega
      · obtain rfl : k = n := by omega
        go_wp2_with fail
        go_ret
        exact ⟨Mt.ret_int (by rw [HGF.out]), HB.out⟩
end
end Go.Proofs.Ytmahkgkhnpffeaa
