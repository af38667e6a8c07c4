/-
  JournalLasts is proved: wherever the power fails, again and again, the records that were told are there, and perhaps the one that wasn't told, unless a torn sector passes for a cell or a head. No condition.
-/
import Derived.Test.YtnioagojiipjlaaGreatRows
import Derived.ProofKit
import Derived.OpenShut
import Derived.ShutString
import Derived.SizedLaws
import Derived.Deep.Slices
import Derived.Deep.Fields
import Derived.Test.YtnioagojiipjlaaGreatPk54
set_option linter.unusedVariables false
set_option linter.unusedSimpArgs false
namespace Go.Proofs.YtnioagojiipjlaaGreat.journalLasts
open Go.ChangeShapes Go.WideShapes Go.ChangeAt Go.RowKit
open Go.ChangeMaps (open_string shut_string)
open Go.Deep
set_option linter.unusedVariables false

/-! The step from the walk to the row. -/
theorem own : ownKnob Tryz.prog.godebug = none := by kernel_rfl
theorem laidOut : laidOutB Tryz.prog = true := by kernel_rfl
theorem cellsLoss : Tryz.prog.cellsOf 42 = 3 := by kernel_rfl
theorem cellsU64 : Tryz.prog.cellsOf 40 = 1 := by kernel_rfl
theorem cellsInt : Tryz.prog.cellsOf 3 = 1 := by kernel_rfl
theorem cellsCut : Tryz.prog.cellsOf 57 = 4 := by kernel_rfl
theorem str_back (s : ByteArray) : Mt.str s.data.toList = s := rfl
theorem add_none (b off i : Nat) : (⟨b, off, none⟩ : Addr).add i = ⟨b, off + i, none⟩ := by unfold Addr.add; split <;> simp_all
/-- A slice of texts that came in. -/
theorem open_texts {H : Type} {enc : TypeId × Value → H} {W : World} {m : Nat} {v : Value} {x : DataW H × List MemPlace}
    (hf : DataW.trod enc Tryz.prog W 0 (fun _ => true) true m 30 [v] = some x) : ∃ L : List (List UInt8), IsTs W v L ∧ L.length ≤ 9223372036854775807 ∧ ∀ b ∈ L, b.length ≤ 9223372036854775807 := by
  rcases open_strings Tryz.underlying30 Tryz.underlying9 (by kernel_rfl) hf with ⟨hcs, _⟩ | ⟨x, l, cp, ss, hcs, _, hl, hm, hz, _, hcell, hws⟩
  · obtain rfl : v = .slice none 0 0 := by simpa using hcs
    exact ⟨[], ⟨none, 0, rfl, Nat.le_refl _, .inl rfl⟩, by simp, by simp⟩
  · obtain rfl : v = .slice (some x) l cp := by simpa using hcs
    have hz' : ss.length = cp := by simpa using hz
    have hlen : ((ss.take l).map fun s => s.data.toList).length = l := by rw [List.length_map, List.length_take]; omega
    refine ⟨(ss.take l).map fun s => s.data.toList, ⟨some x, cp, by rw [hlen], by rw [hlen]; omega, ?_⟩, by rw [hlen]; unfold maxLen at hm; omega, fun b hb => ?_⟩
    · rcases Nat.eq_zero_or_pos l with rfl | hpos
      · exact .inl (by simp)
      · right
        obtain ⟨b, off, spot⟩ := x
        have h0 := hcell 0 (by omega)
        have hspot : spot = none := by simpa [Addr.add] using World.cell?_spot h0
        subst hspot
        refine ⟨b, off, rfl, ?_, fun j hj => ?_⟩
        · rw [add_none] at h0
          exact World.block_lt_of_cell? W _ h0
        · have hj' : j < l := by rw [hlen] at hj; exact hj
          have h1 := hcell j (by omega)
          rw [add_none] at h1
          rw [h1, List.getElem_map, List.getElem_take, str_back, List.getD_eq_getElem?_getD, List.getElem?_eq_getElem (show j < ss.length by omega), Option.getD_some]
    · rw [List.mem_map] at hb
      obtain ⟨s, hs, rfl⟩ := hb
      have := hws s (List.mem_of_mem_take hs)
      unfold maxLen at this
      exact this
set_option maxRecDepth 100000 in
/-- A cut's four cells. -/
theorem open_cutcells {H : Type} {enc : TypeId × Value → H} {W : World} {m : Nat} {cs : List Value} {x : DataW H × List MemPlace} (hz : cs.length = 4) (hf : DataW.trod enc Tryz.prog W 0 (fun _ => true) true m 57 cs = some x) :
    ∃ (N : Int) (K : Nat) (T A : Int), cs = [.int .i64 N, .int .u64 (K : Int), .int .i64 T, .int .i64 A] ∧ N ≤ 9223372036854775807 ∧ K < 18446744073709551616 ∧ (-9223372036854775808 ≤ T ∧ T ≤ 9223372036854775807) ∧ (-9223372036854775808 ≤ A ∧ A ≤ 9223372036854775807) := by
  obtain ⟨xs, m, _, _, _, hxl, hg⟩ := DataW.trod_struct Tryz.underlying57 hf
  match cs, hz, xs, hxl with
  | [c0, c1, c2, c3], _, [y0, y1], _ =>
    obtain ⟨N, e0, _, hN⟩ := DataW.trod_int Tryz.underlying3 (x := y0) (by simpa [cellsInt, Value.cells] using hg 0 _ rfl)
    have hl : DataW.trod enc Tryz.prog W 0 (fun _ => true) true m 42 [c1, c2, c3] = some y1 := by simpa [cellsInt, cellsLoss, Value.cells] using hg 1 _ rfl
    obtain ⟨zs, m2, _, _, _, hzl, hq⟩ := DataW.trod_struct Tryz.underlying42 hl
    match zs, hzl with
    | [z0, z1, z2], _ =>
      obtain ⟨K, e4, _, hK⟩ := DataW.trod_int Tryz.underlying40 (x := z0) (by simpa [cellsU64, Value.cells] using hq 0 _ rfl)
      obtain ⟨T, e5, _, hT⟩ := DataW.trod_int Tryz.underlying3 (x := z1) (by simpa [cellsInt, cellsU64, Value.cells] using hq 1 _ rfl)
      obtain ⟨A, e6, _, hA⟩ := DataW.trod_int Tryz.underlying3 (x := z2) (by simpa [cellsInt, cellsU64, Value.cells] using hq 2 _ rfl)
      simp only [List.cons.injEq, and_true] at e0 e4 e5 e6
      subst e0 e4 e5 e6
      have bK := bounds_u64 hK
      have bN := bounds_i64 hN
      have bT := bounds_i64 hT
      have bA := bounds_i64 hA
      have e : ((K.toNat : Nat) : Int) = K := by omega
      exact ⟨N, K.toNat, T, A, by rw [e], bN.2, by omega, bT, bA⟩
set_option maxRecDepth 100000 in
/-- Cuts that came in. -/
theorem open_cuts {H : Type} {enc : TypeId × Value → H} {W : World} {a : Option Addr} {n c : Nat} {d : DataW H} {p : List MemPlace}
    (h : DataW.Trod enc Tryz.prog W 0 (fun _ => true) true 55 (.slice a n c) d p) : ∃ f, IsCuts W a n f ∧ n ≤ 9223372036854775807 := by
  obtain ⟨fuel, hf⟩ := h
  have z0 : Cu := ⟨0, 0, 0, 0⟩
  rcases open_slice Tryz.underlying55 hf with ⟨hcs, _⟩ | ⟨x, l, cp, m, fu, D, Pl, hcs, _, hl, hm, hmm, _, hi⟩
  · simp [Value.cells] at hcs
    obtain ⟨rfl, rfl, rfl⟩ := hcs
    exact ⟨fun _ => z0, fun k hk => by omega, by omega⟩
  · simp [Value.cells] at hcs
    obtain ⟨rfl, rfl, rfl⟩ := hcs
    rw [cellsCut] at hi
    have hnm : n ≤ m := by rw [hmm]; split <;> omega
    have hbound : n ≤ 9223372036854775807 := by unfold maxLen at hm; omega
    have hall : ∀ i : Nat, ∃ q : Cu, i < n → q.Ok ∧ W.cell? ((x.add (i * 4)).add 0) = some (.int .i64 q.N) ∧ W.cell? ((x.add (i * 4)).add 1) = some (.int .u64 (q.K : Int)) ∧ W.cell? ((x.add (i * 4)).add 2) = some (.int .i64 q.T) ∧ W.cell? ((x.add (i * 4)).add 3) = some (.int .i64 q.A) := by
      intro i
      by_cases hin : i < n
      · obtain ⟨cs', hc, ht⟩ := hi i (by omega)
        obtain ⟨_, hcl, hat⟩ := World.cells?_some hc
        obtain ⟨N, K, T, A, e, h1, h2, h3, h4⟩ := open_cutcells hcl ht
        subst e
        exact ⟨⟨N, K, T, A⟩, fun _ => ⟨⟨h1, h2, h3, h4⟩, (hat 0 (by omega)).trans rfl, (hat 1 (by omega)).trans rfl, (hat 2 (by omega)).trans rfl, (hat 3 (by omega)).trans rfl⟩⟩
      · exact ⟨z0, fun h => absurd h hin⟩
    refine ⟨fun i => (hall i).choose, fun i hin => ?_, hbound⟩
    obtain ⟨k0, k1, k2, k3, k4⟩ := (hall i).choose_spec hin
    show Cu.Ok (hall i).choose ∧ ∃ b off, some x = some ⟨b, off, none⟩ ∧ b < W.heap.size ∧ W.cell? ⟨b, off + i * 4, none⟩ = some (.int .i64 (hall i).choose.N) ∧ W.cell? ⟨b, off + i * 4 + 1, none⟩ = some (.int .u64 ((hall i).choose.K : Int)) ∧ W.cell? ⟨b, off + i * 4 + 2, none⟩ = some (.int .i64 (hall i).choose.T) ∧ W.cell? ⟨b, off + i * 4 + 3, none⟩ = some (.int .i64 (hall i).choose.A)
    have hspot : x.spot = none := by
      have h1 := World.cell?_spot ((hall 0).choose_spec (by omega)).2.1
      simpa [Addr.add] using h1
    generalize (hall i).choose = q at k0 k1 k2 k3 k4 ⊢
    clear hall hi
    obtain ⟨b, off, spot⟩ := x
    have hspot : spot = none := hspot
    subst hspot
    rw [add_none, add_none] at k1 k2 k3 k4
    exact ⟨k0, b, off, rfl, World.block_lt_of_cell? W _ k1, k1, k2, k3, k4⟩

set_option maxRecDepth 100000 in
theorem lifted (os : Os) (started : os.Started) (H : Type) (enc : TypeId × Value → H) :
    ReturnsInHanded {} Tryz.checked os 4 .any (Rows.journalLastsSpec.pre6 enc Tryz.prog Tryz.f4 Rows.journalLastsRow.domain false) (Rows.journalLastsSpec.post enc Tryz.prog Tryz.f4 false true false false) := by
  refine returnsInHanded_of_change_sized (C := Tryz.checked) own started (by kernel_rfl) Tryz.func4
    (ChangeSpec.witness6 (enc := enc) (C := Tryz.checked) false ⟨#[], #[.slice none 0 0, .slice none 0 0], []⟩ 8 (by kernel_rfl) (by kernel_rfl) (by kernel_rfl) (by kernel_rfl)) ?_
  intro W base args ds gs before hval0 hW _ hsz0 _
  have hval : ∀ (j : Nat) t v, Tryz.f4.params[j]? = some t → args[j]? = some v → Value.okWide Tryz.prog W .any base t v := hval0
  have hW' := hW
  obtain ⟨p, q, hA0, hV, rfl, _, _⟩ := hW
  have hA : DataW.TrodAll enc Tryz.prog W 0 (fun _ => true) true Tryz.f4.params.toList args.toList ds p := hA0
  rw [Tryz.params4] at hA hval
  obtain ⟨v0, vs0, d0, ds0, p0, q0, hargs, rfl, rfl, h0, r0⟩ := trodAll_cons hA
  obtain ⟨v1, vs1, d1, ds1, p1, q1, rfl, rfl, rfl, h1, r1⟩ := trodAll_cons r0
  obtain ⟨rfl, rfl, rfl⟩ := trodAll_nil r1
  obtain rfl : args = #[v0, v1] := by cases args; simp_all
  obtain ⟨rfl, rfl⟩ := trodVars_none hV
  obtain ⟨a0, n0, c0, rfl⟩ := okWide_slice Tryz.underlying30 (hval 0 30 v0 rfl rfl)
  obtain ⟨a1, n1, c1, rfl⟩ := okWide_slice Tryz.underlying55 (hval 1 55 v1 rfl rfl)
  have k0 := h0
  have k1 := h1
  have lt0 : ∀ x ∈ p0, x.block < W.heap.size := by obtain ⟨m, hm⟩ := k0; exact DataW.trod_lt m _ _ _ hm
  have lt1 : ∀ x ∈ p1, x.block < W.heap.size := by obtain ⟨m, hm⟩ := k1; exact DataW.trod_lt m _ _ _ hm
  obtain ⟨f0, hf0⟩ := h0
  obtain ⟨L0, t0, s0⟩ := open_texts hf0
  obtain ⟨f, t1, s1⟩ := open_cuts h1
  clear hA0 hval0
  simp only [List.append_nil] at hW'
  refine (jlasts (.slice a0 n0 c0) L0 a1 c1 f n1 W t0 s0 t1 s1).mono fun e W' ⟨he, bel⟩ => ?_
  subst he
  exact ⟨_, rfl, _, _, _, [], _, [], hW', trodAll_mk1 (shut_bool Tryz.underlying4 _), (trodAll_cons_mk (Below.trod laidOut (by kernel_rfl) (of_decide_eq_true (by kernel_rfl)) k0 bel lt0) (trodAll_cons_mk (Below.trod laidOut (by kernel_rfl) (of_decide_eq_true (by kernel_rfl)) k1 bel lt1) trodAll_mk0)), rfl, bel.frame _, fun h => by cases h⟩

theorem proved : Rows.JournalLastsSaid :=
  OpenClaim.holds_of_wide 4 Tryz.f4 rfl rfl rfl rfl rfl rfl rfl ⟨rfl, rfl, rfl, rfl, rfl⟩ rfl rfl rfl rfl rfl (by kernel_rfl) Tryz.func4 (by kernel_rfl)
    (of_decide_eq_true (by kernel_rfl)) (by unfold Func.isWrapper; first | (rw [if_pos (by decide +kernel)]; kernel_rfl) | (rw [if_neg (by decide +kernel)]; exact ⟨rfl, rfl⟩))
    (fun os started H enc _ => lifted os started H enc)

#print axioms proved
end Go.Proofs.YtnioagojiipjlaaGreat.journalLasts
