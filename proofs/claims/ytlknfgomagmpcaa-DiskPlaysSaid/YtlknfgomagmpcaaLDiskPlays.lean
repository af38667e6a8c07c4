/-
  DiskPlays.
-/
import Derived.Test.YtlknfgomagmpcaaDrM
import Derived.Test.YtlknfgomagmpcaaRows
import Derived.ProofKit
import Derived.OpenShut
import Derived.ShutString
import Derived.SizedLaws
import Derived.Deep.Slices
import Derived.Deep.Fields
namespace Go.Proofs.Ytlknfgomagmpcaa.diskPlays
open Go.ChangeShapes Go.WideShapes Go.ChangeAt Go.RowKit
open Go.ChangeMaps (open_string shut_string)
open Go.Deep
set_option linter.unusedVariables false

/-! The step from the walk to the row. -/
theorem own : ownKnob Try.prog.godebug = none := by kernel_rfl
theorem laidOut : laidOutB Try.prog = true := by kernel_rfl

theorem cellsLoss : Try.prog.cellsOf 30 = 3 := by kernel_rfl
theorem cellsU64 : Try.prog.cellsOf 28 = 1 := by kernel_rfl
theorem cellsInt : Try.prog.cellsOf 3 = 1 := by kernel_rfl
theorem cellsStr : Try.prog.cellsOf 9 = 1 := by kernel_rfl
theorem cellsAct : Try.prog.cellsOf 32 = 7 := by kernel_rfl
set_option maxRecDepth 100000 in
/-- An act that came in: its seven cells. -/
theorem open_act {H : Type} {enc : TypeId × Value → H} {W : World} {m : Nat} {cs : List Value} {x : DataW H × List MemPlace} (hz : cs.length = 7) (hf : DataW.trod enc Try.prog W 0 (fun _ => true) true m 32 cs = some x) : ∃ a : Ac, a.Ok ∧ cs = a.cells.toList := by
  obtain ⟨xs, m, _, _, _, hxl, hg⟩ := DataW.trod_struct Try.underlying32 hf
  match cs, hz, xs, hxl with
  | [c0, c1, c2, c3, c4, c5, c6], _, [y0, y1, y2, y3, y4], _ =>
    obtain ⟨D, e0, _⟩ := DataW.trod_int Try.underlying3 (x := y0) (by simpa [cellsInt, Value.cells] using hg 0 _ rfl)
    obtain ⟨I, e1, _⟩ := DataW.trod_int Try.underlying3 (x := y1) (by simpa [cellsInt, Value.cells] using hg 1 _ rfl)
    obtain ⟨N, e2, _, hN⟩ := DataW.trod_int Try.underlying3 (x := y2) (by simpa [cellsInt, Value.cells] using hg 2 _ rfl)
    obtain ⟨S, e3, _⟩ := DataW.trod_string Try.underlying9 (x := y3) (by simpa [cellsStr, cellsInt, Value.cells] using hg 3 _ rfl)
    have hl : DataW.trod enc Try.prog W 0 (fun _ => true) true m 30 [c4, c5, c6] = some y4 := by simpa [cellsStr, cellsInt, cellsLoss, Value.cells] using hg 4 _ rfl
    obtain ⟨zs, m2, _, _, _, hzl, hq⟩ := DataW.trod_struct Try.underlying30 hl
    match zs, hzl with
    | [z0, z1, z2], _ =>
      obtain ⟨K, e4, _, hK⟩ := DataW.trod_int Try.underlying28 (x := z0) (by simpa [cellsU64, Value.cells] using hq 0 _ rfl)
      obtain ⟨T, e5, _, hT⟩ := DataW.trod_int Try.underlying3 (x := z1) (by simpa [cellsInt, cellsU64, Value.cells] using hq 1 _ rfl)
      obtain ⟨A, e6, _, hA⟩ := DataW.trod_int Try.underlying3 (x := z2) (by simpa [cellsInt, cellsU64, Value.cells] using hq 2 _ rfl)
      simp only [List.cons.injEq, and_true] at e0 e1 e2 e3 e4 e5 e6
      subst e0 e1 e2 e3 e4 e5 e6
      have bK := bounds_u64 hK
      have bN := bounds_i64 hN
      have bT := bounds_i64 hT
      have bA := bounds_i64 hA
      refine ⟨⟨D, I, N, S, K.toNat, T, A⟩, ⟨bN.2, by show K.toNat < _; omega, bT, bA⟩, ?_⟩
      have e : ((K.toNat : Nat) : Int) = K := by omega
      show _ = [Value.int .i64 D, .int .i64 I, .int .i64 N, .string S, .int .u64 ((K.toNat : Nat) : Int), .int .i64 T, .int .i64 A]
      rw [e]
/-- A script that came in. -/
theorem open_acts {H : Type} {enc : TypeId × Value → H} {W : World} {a : Option Addr} {n c : Nat} {d : DataW H} {p : List MemPlace}
    (h : DataW.Trod enc Try.prog W 0 (fun _ => true) true 22 (.slice a n c) d p) : ∃ f, n = 0 ∨ ∃ b off, a = some ⟨b, off, none⟩ ∧ IsActs W b off n f := by
  obtain ⟨fuel, hf⟩ := h
  rcases open_slice Try.underlying22 hf with ⟨hcs, _⟩ | ⟨x, l, cp, m, fu, D, Pl, hcs, _, hl, hm, hmm, _, hi⟩
  · simp [Value.cells] at hcs
    exact ⟨fun _ => ⟨0, 0, 0, ByteArray.empty, 0, 0, 0⟩, .inl hcs.2.1⟩
  · simp [Value.cells] at hcs
    obtain ⟨rfl, rfl, rfl⟩ := hcs
    rw [cellsAct] at hi
    have hnm : n ≤ m := by rw [hmm]; split <;> omega
    rcases Nat.eq_zero_or_pos n with h0 | hpos
    · exact ⟨fun _ => ⟨0, 0, 0, ByteArray.empty, 0, 0, 0⟩, .inl h0⟩
    have hall : ∀ i : Nat, ∃ q : Ac, i < n → q.Ok ∧ ∀ j v, q.cells[j]? = some v → W.cell? ((x.add (i * 7)).add j) = some v := by
      intro i
      by_cases hin : i < n
      · obtain ⟨cs', hc, ht⟩ := hi i (by omega)
        obtain ⟨_, hcl, hat⟩ := World.cells?_some hc
        obtain ⟨q, hq, e⟩ := open_act hcl ht
        refine ⟨q, fun _ => ⟨hq, fun j v hv => ?_⟩⟩
        have hj : j < 7 := by
          rcases Nat.lt_or_ge j 7 with h | h
          · exact h
          · rw [Array.getElem?_eq_none (by exact h)] at hv; cases hv
        rw [hat j hj, e]
        simpa using hv
      · exact ⟨⟨0, 0, 0, ByteArray.empty, 0, 0, 0⟩, fun h => absurd h hin⟩
    refine ⟨fun i => (hall i).choose, .inr ?_⟩
    obtain ⟨b, off, spot⟩ := x
    have hspot : spot = none := by
      have h0 := ((hall 0).choose_spec hpos).2 0 _ rfl
      simpa [Addr.add] using World.cell?_spot h0
    subst hspot
    refine ⟨b, off, rfl, fun i hin => ⟨((hall i).choose_spec hin).1, fun j v hv => ?_⟩⟩
    have h1 := ((hall i).choose_spec hin).2 j v hv
    rw [add_off, add_off] at h1
    exact h1

set_option maxRecDepth 100000 in
theorem lifted (os : Os) (started : os.Started) (H : Type) (enc : TypeId × Value → H) :
    ReturnsInHanded {} Try.checked os 3 .any (Rows.diskPlaysSpec.pre6 enc Try.prog Try.f3 Rows.diskPlaysRow.domain false) (Rows.diskPlaysSpec.post enc Try.prog Try.f3 false true false false) := by
  refine returnsInHanded_of_change_sized (C := Try.checked) own started (by kernel_rfl) Try.func3
    (ChangeSpec.witness6 (enc := enc) (C := Try.checked) false ⟨#[], #[.int .i64 0, .slice none 0 0], []⟩ 8 (by kernel_rfl) (by kernel_rfl) (by kernel_rfl) (by kernel_rfl)) ?_
  intro W base args ds gs before hval0 hW _ hsz0 _
  have hsz : (DataW.weightsEach Try.prog (Try.f3.params.toList ++ Rows.diskPlaysSpec.plain.varTypes Try.prog) (ds ++ gs)).all (· ≤ reachBytes) = true := hsz0
  have hval : ∀ (j : Nat) t v, Try.f3.params[j]? = some t → args[j]? = some v → Value.okWide Try.prog W .any base t v := hval0
  have hW' := hW
  obtain ⟨p, q, hA0, hV, rfl, _, _⟩ := hW
  have hA : DataW.TrodAll enc Try.prog W 0 (fun _ => true) true Try.f3.params.toList args.toList ds p := hA0
  rw [Try.params3] at hA hval hsz
  obtain ⟨v0, vs0, d0, ds0, p0, q0, hargs, rfl, rfl, h0, r0⟩ := trodAll_cons hA
  obtain ⟨v1, vs1, d1, ds1, p1, q1, rfl, rfl, rfl, h1, r1⟩ := trodAll_cons r0
  obtain ⟨rfl, rfl, rfl⟩ := trodAll_nil r1
  obtain rfl : args = #[v0, v1] := by cases args; simp_all
  obtain ⟨rfl, rfl⟩ := trodVars_none hV
  obtain ⟨a0, rfl, rfl, rfl, w0⟩ := open_int Try.underlying3 (hval 0 3 v0 rfl rfl) h0
  obtain ⟨a1, n1, c1, rfl⟩ := okWide_slice Try.underlying22 (hval 1 22 v1 rfl rfl)
  have k1 := h1
  have lt1 : ∀ x ∈ p1, x.block < W.heap.size := by obtain ⟨m, hm⟩ := k1; exact DataW.trod_lt m _ _ _ hm
  obtain ⟨f, w1⟩ := open_acts h1
  clear hA0 hval0
  simp only [List.append_nil] at hW'
  refine (plays a0 a1 n1 c1 f W w1).mono fun e W' ⟨he, bel⟩ => ?_
  subst he
  exact ⟨_, rfl, _, _, _, [], _, [], hW', trodAll_mk1 (shut_bool Try.underlying4 _), (trodAll_cons_mk (shut_int Try.underlying3 w0) (trodAll_cons_mk (Below.trod laidOut (by kernel_rfl) (of_decide_eq_true (by kernel_rfl)) k1 bel lt1) trodAll_mk0)), rfl, bel.frame _, fun h => by cases h⟩

theorem proved : Rows.DiskPlaysSaid :=
  OpenClaim.holds_of_wide 3 Try.f3 rfl rfl rfl rfl rfl rfl rfl ⟨rfl, rfl, rfl, rfl, rfl⟩ rfl rfl rfl rfl rfl (by kernel_rfl) Try.func3 (by kernel_rfl)
    (of_decide_eq_true (by kernel_rfl)) (by unfold Func.isWrapper; first | (rw [if_pos (by decide +kernel)]; kernel_rfl) | (rw [if_neg (by decide +kernel)]; exact ⟨rfl, rfl⟩))
    (fun os started H enc _ => lifted os started H enc)

#print axioms proved
end Go.Proofs.Ytlknfgomagmpcaa.diskPlays
