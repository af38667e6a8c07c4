/-
  JournalPlays is proved: behind any calls, over a disk on which anything lay, with any losses of power, both journals answer the same, and both disks have the same. No condition.
-/
import Derived.Test.YtnioagojiipjlaaGreatRows
import Derived.ProofKit
import Derived.OpenShut
import Derived.ShutString
import Derived.SizedLaws
import Derived.Deep.Slices
import Derived.Deep.Fields
import Derived.Test.YtnioagojiipjlaaGreatPk36
namespace Go.Proofs.YtnioagojiipjlaaGreat.journalPlays
open Go.ChangeShapes Go.WideShapes Go.ChangeAt Go.RowKit
open Go.ChangeMaps (open_string shut_string)
open Go.Deep
set_option linter.unusedVariables false

/-! The step from the walk to the row. -/
theorem own : ownKnob Tryz.prog.godebug = none := by kernel_rfl
theorem laidOut : laidOutB Tryz.prog = true := by kernel_rfl
theorem cellsLoss : Tryz.prog.cellsOf 42 = 3 := by kernel_rfl
theorem cellsU64 : Tryz.prog.cellsOf 40 = 1 := by kernel_rfl
theorem cellsInt : Tryz.prog.cellsOf 3 = 1 := by kernel_rfl
theorem cellsStr : Tryz.prog.cellsOf 9 = 1 := by kernel_rfl
theorem cellsStrs : Tryz.prog.cellsOf 30 = 1 := by kernel_rfl
theorem cellsStep : Tryz.prog.cellsOf 44 = 7 := by kernel_rfl
theorem str_back (s : ByteArray) : Mt.str s.data.toList = s := rfl
theorem add_none (b off i : Nat) : (⟨b, off, none⟩ : Addr).add i = ⟨b, off + i, none⟩ := by unfold Addr.add; split <;> simp_all
/-- A slice of texts that came in. -/
theorem open_texts {H : Type} {enc : TypeId × Value → H} {W : World} {m : Nat} {v : Value} {x : DataW H × List MemPlace}
    (hf : DataW.trod enc Tryz.prog W 0 (fun _ => true) true m 30 [v] = some x) : ∃ L : List (List UInt8), IsTs W v L ∧ L.length ≤ 9223372036854775807 ∧ ∀ b ∈ L, b.length ≤ 9223372036854775807 := by
  rcases open_strings Tryz.underlying30 Tryz.underlying9 (by kernel_rfl) hf with ⟨hcs, _⟩ | ⟨x, l, cp, ss, hcs, _, hl, hm, hz, _, hcell, hws⟩
  · obtain rfl : v = .slice none 0 0 := by simpa using hcs
    exact ⟨[], ⟨none, 0, rfl, Nat.le_refl _, .inl rfl⟩, by simp, by simp⟩
  · obtain rfl : v = .slice (some x) l cp := by simpa using hcs
    have hz' : ss.length = cp := by simpa using hz
    have hlen : ((ss.take l).map fun s => s.data.toList).length = l := by rw [List.length_map, List.length_take]; omega
    refine ⟨(ss.take l).map fun s => s.data.toList, ⟨some x, cp, by rw [hlen], by rw [hlen]; omega, ?_⟩, by rw [hlen]; unfold maxLen at hm; omega, fun b hb => ?_⟩
    · rcases Nat.eq_zero_or_pos l with rfl | hpos
      · exact .inl (by simp)
      · right
        obtain ⟨b, off, spot⟩ := x
        have h0 := hcell 0 (by omega)
        have hspot : spot = none := by simpa [Addr.add] using World.cell?_spot h0
        subst hspot
        refine ⟨b, off, rfl, ?_, fun j hj => ?_⟩
        · rw [add_none] at h0
          exact World.block_lt_of_cell? W _ h0
        · have hj' : j < l := by rw [hlen] at hj; exact hj
          have h1 := hcell j (by omega)
          rw [add_none] at h1
          rw [h1, List.getElem_map, List.getElem_take, str_back, List.getD_eq_getElem?_getD, List.getElem?_eq_getElem (show j < ss.length by omega), Option.getD_some]
    · rw [List.mem_map] at hb
      obtain ⟨s, hs, rfl⟩ := hb
      have := hws s (List.mem_of_mem_take hs)
      unfold maxLen at this
      exact this
set_option maxRecDepth 100000 in
/-- A step that came in. -/
theorem open_step {H : Type} {enc : TypeId × Value → H} {W : World} {m : Nat} {cs : List Value} {x : DataW H × List MemPlace} (hz : cs.length = 7) (hf : DataW.trod enc Tryz.prog W 0 (fun _ => true) true m 44 cs = some x) : ∃ a : St6, a.Ok ∧ IsTs W a.v a.L ∧ cs = a.cells.toList := by
  obtain ⟨xs, m, _, _, _, hxl, hg⟩ := DataW.trod_struct Tryz.underlying44 hf
  match cs, hz, xs, hxl with
  | [c0, c1, c2, c3, c4, c5, c6], _, [y0, y1, y2, y3, y4], _ =>
    obtain ⟨D, e0, _⟩ := DataW.trod_int Tryz.underlying3 (x := y0) (by simpa [cellsInt, Value.cells] using hg 0 _ rfl)
    obtain ⟨N, e1, _, hN⟩ := DataW.trod_int Tryz.underlying3 (x := y1) (by simpa [cellsInt, Value.cells] using hg 1 _ rfl)
    obtain ⟨S, e2, _, hS⟩ := DataW.trod_string Tryz.underlying9 (x := y2) (by simpa [cellsStr, cellsInt, Value.cells] using hg 2 _ rfl)
    have hts : DataW.trod enc Tryz.prog W 0 (fun _ => true) true m 30 [c3] = some y3 := by simpa [cellsStr, cellsInt, cellsStrs, Value.cells] using hg 3 _ rfl
    have hl : DataW.trod enc Tryz.prog W 0 (fun _ => true) true m 42 [c4, c5, c6] = some y4 := by simpa [cellsStr, cellsStrs, cellsInt, cellsLoss, Value.cells] using hg 4 _ rfl
    obtain ⟨L, hL, hL1, hL2⟩ := open_texts hts
    obtain ⟨zs, m2, _, _, _, hzl, hq⟩ := DataW.trod_struct Tryz.underlying42 hl
    match zs, hzl with
    | [z0, z1, z2], _ =>
      obtain ⟨K, e4, _, hK⟩ := DataW.trod_int Tryz.underlying40 (x := z0) (by simpa [cellsU64, Value.cells] using hq 0 _ rfl)
      obtain ⟨T, e5, _, hT⟩ := DataW.trod_int Tryz.underlying3 (x := z1) (by simpa [cellsInt, cellsU64, Value.cells] using hq 1 _ rfl)
      obtain ⟨A, e6, _, hA⟩ := DataW.trod_int Tryz.underlying3 (x := z2) (by simpa [cellsInt, cellsU64, Value.cells] using hq 2 _ rfl)
      simp only [List.cons.injEq, and_true] at e0 e1 e2 e4 e5 e6
      subst e0 e1 e2 e4 e5 e6
      have bK := bounds_u64 hK
      have bN := bounds_i64 hN
      have bT := bounds_i64 hT
      have bA := bounds_i64 hA
      have e : ((K.toNat : Nat) : Int) = K := by omega
      refine ⟨⟨D, N, S.data.toList, c3, L, K.toNat, T, A⟩, ⟨bN, ?_, hL1, hL2, by show K.toNat < _; omega, bT, bA⟩, hL, ?_⟩
      · have h := hS
        unfold maxLen at h
        show S.data.toList.length ≤ _
        rw [Array.length_toList]
        exact h
      · show _ = [Value.int .i64 D, .int .i64 N, .string S, c3, .int .u64 ((K.toNat : Nat) : Int), .int .i64 T, .int .i64 A]
        rw [e]
/-- A script that came in. -/
theorem open_steps {H : Type} {enc : TypeId × Value → H} {W : World} {a : Option Addr} {n c : Nat} {d : DataW H} {p : List MemPlace}
    (h : DataW.Trod enc Tryz.prog W 0 (fun _ => true) true 22 (.slice a n c) d p) : ∃ f, IsSts W a n f ∧ n ≤ 9223372036854775807 := by
  obtain ⟨fuel, hf⟩ := h
  have z0 : St6 := ⟨0, 0, [], .slice none 0 0, [], 0, 0, 0⟩
  rcases open_slice Tryz.underlying22 hf with ⟨hcs, _⟩ | ⟨x, l, cp, m, fu, D, Pl, hcs, _, hl, hm, hmm, _, hi⟩
  · simp [Value.cells] at hcs
    exact ⟨fun _ => z0, .inl hcs.2.1, by omega⟩
  · simp [Value.cells] at hcs
    obtain ⟨rfl, rfl, rfl⟩ := hcs
    rw [cellsStep] at hi
    have hnm : n ≤ m := by rw [hmm]; split <;> omega
    have hbound : n ≤ 9223372036854775807 := by unfold maxLen at hm; omega
    rcases Nat.eq_zero_or_pos n with h0 | hpos
    · exact ⟨fun _ => z0, .inl h0, hbound⟩
    have hall : ∀ i : Nat, ∃ q : St6, i < n → q.Ok ∧ IsTs W q.v q.L ∧ ∀ (j : Nat) v, q.cells[j]? = some v → W.cell? ((x.add (i * 7)).add j) = some v := by
      intro i
      by_cases hin : i < n
      · obtain ⟨cs', hc, ht⟩ := hi i (by omega)
        obtain ⟨_, hcl, hat⟩ := World.cells?_some hc
        obtain ⟨q, hq, hts, e⟩ := open_step hcl ht
        refine ⟨q, fun _ => ⟨hq, hts, fun j v hv => ?_⟩⟩
        have hj : j < 7 := by
          rcases Nat.lt_or_ge j 7 with h | h
          · exact h
          · rw [Array.getElem?_eq_none (by exact h)] at hv; cases hv
        rw [hat j hj, e]
        simpa using hv
      · exact ⟨z0, fun h => absurd h hin⟩
    refine ⟨fun i => (hall i).choose, .inr ?_, hbound⟩
    obtain ⟨b, off, spot⟩ := x
    have hspot : spot = none := by
      have h0 := ((hall 0).choose_spec hpos).2.2 0 _ rfl
      simpa [Addr.add] using World.cell?_spot h0
    subst hspot
    refine ⟨b, off, rfl, fun i hin => ⟨((hall i).choose_spec hin).1, ((hall i).choose_spec hin).2.1, fun j v hv => ?_⟩⟩
    have h1 := ((hall i).choose_spec hin).2.2 j v hv
    rw [add_off, add_off] at h1
    exact h1

set_option maxRecDepth 100000 in
theorem lifted (os : Os) (started : os.Started) (H : Type) (enc : TypeId × Value → H) :
    ReturnsInHanded {} Tryz.checked os 3 .any (Rows.journalPlaysSpec.pre6 enc Tryz.prog Tryz.f3 Rows.journalPlaysRow.domain false) (Rows.journalPlaysSpec.post enc Tryz.prog Tryz.f3 false true false false) := by
  refine returnsInHanded_of_change_sized (C := Tryz.checked) own started (by kernel_rfl) Tryz.func3
    (ChangeSpec.witness6 (enc := enc) (C := Tryz.checked) false ⟨#[], #[.int .i64 0, .string .empty, .slice none 0 0], []⟩ 8 (by kernel_rfl) (by kernel_rfl) (by kernel_rfl) (by kernel_rfl)) ?_
  intro W base args ds gs before hval0 hW _ hsz0 _
  have hsz : (DataW.weightsEach Tryz.prog (Tryz.f3.params.toList ++ Rows.journalPlaysSpec.plain.varTypes Tryz.prog) (ds ++ gs)).all (· ≤ reachBytes) = true := hsz0
  have hval : ∀ (j : Nat) t v, Tryz.f3.params[j]? = some t → args[j]? = some v → Value.okWide Tryz.prog W .any base t v := hval0
  have hW' := hW
  obtain ⟨p, q, hA0, hV, rfl, _, _⟩ := hW
  have hA : DataW.TrodAll enc Tryz.prog W 0 (fun _ => true) true Tryz.f3.params.toList args.toList ds p := hA0
  rw [Tryz.params3] at hA hval hsz
  obtain ⟨v0, vs0, d0, ds0, p0, q0, hargs, rfl, rfl, h0, r0⟩ := trodAll_cons hA
  obtain ⟨v1, vs1, d1, ds1, p1, q1, rfl, rfl, rfl, h1, r1⟩ := trodAll_cons r0
  obtain ⟨v2, vs2, d2, ds2, p2, q2, rfl, rfl, rfl, h2, r2⟩ := trodAll_cons r1
  obtain ⟨rfl, rfl, rfl⟩ := trodAll_nil r2
  obtain rfl : args = #[v0, v1, v2] := by cases args; simp_all
  obtain ⟨rfl, rfl⟩ := trodVars_none hV
  obtain ⟨a0, rfl, rfl, rfl, w0⟩ := open_int Tryz.underlying3 (hval 0 3 v0 rfl rfl) h0
  obtain ⟨a1, rfl, rfl, rfl, m1⟩ := open_string Tryz.underlying9 (hval 1 9 v1 rfl rfl) h1
  have w1 : a1.size ≤ 140737488351232 := by
    have h : a1.data.toList.length ≤ reachBytes := sized_string hsz (j := 1) (t := 9) rfl rfl
    simpa [reachBytes] using h
  obtain ⟨a2, n2, c2, rfl⟩ := okWide_slice Tryz.underlying22 (hval 2 22 v2 rfl rfl)
  have k2 := h2
  have lt2 : ∀ x ∈ p2, x.block < W.heap.size := by obtain ⟨m, hm⟩ := k2; exact DataW.trod_lt m _ _ _ hm
  obtain ⟨f, w2, hn2⟩ := open_steps h2
  clear hA0 hval0
  simp only [List.append_nil] at hW'
  refine (jplays a0 a1 a2 n2 c2 f W w2 hn2 (by omega)).mono fun e W' ⟨he, bel⟩ => ?_
  subst he
  exact ⟨_, rfl, _, _, _, [], _, [], hW', trodAll_mk1 (shut_bool Tryz.underlying4 _), (trodAll_cons_mk (shut_int Tryz.underlying3 w0) (trodAll_cons_mk (shut_string Tryz.underlying9 m1) (trodAll_cons_mk (Below.trod laidOut (by kernel_rfl) (of_decide_eq_true (by kernel_rfl)) k2 bel lt2) trodAll_mk0))), rfl, bel.frame _, fun h => by cases h⟩

theorem proved : Rows.JournalPlaysSaid :=
  OpenClaim.holds_of_wide 3 Tryz.f3 rfl rfl rfl rfl rfl rfl rfl ⟨rfl, rfl, rfl, rfl, rfl⟩ rfl rfl rfl rfl rfl (by kernel_rfl) Tryz.func3 (by kernel_rfl)
    (of_decide_eq_true (by kernel_rfl)) (by unfold Func.isWrapper; first | (rw [if_pos (by decide +kernel)]; kernel_rfl) | (rw [if_neg (by decide +kernel)]; exact ⟨rfl, rfl⟩))
    (fun os started H enc _ => lifted os started H enc)

#print axioms proved
end Go.Proofs.YtnioagojiipjlaaGreat.journalPlays
