/-
  A slice of trees that came in, of a bulk that is bounded.
-/
import Derived.Test.YtfnggifadhploaaTvQ
namespace Go.Proofs.Ytfnggifadhploaa
open Go.RowKit Go.ChangeShapes Go.WideShapes Go.ChangeAt

set_option maxRecDepth 100000 in
theorem open_nodesS {H : Type} {enc : TypeId × Value → H} {W : World} {a : Option Addr} {len c : Nat} {d : DataW H} {p : List MemPlace} {ts : List TypeId} {ds : List (DataW H)} {j : Nat} (h : DataW.Trod enc Try.prog W 0 (fun _ => true) true 22 (.slice a len c) d p)
    (ht : ts[j]? = some 22) (hd : ds[j]? = some d) (hsz : (DataW.weightsEach Try.prog ts ds).all (· ≤ reachBytes) = true) (hk : Rows.uptoSmall H ds = true) :
    ∃ (ns : List Mt.Nd) (m : Nat), len = ns.length ∧ IsKids (IsNd W (fun _ => True) m) W (fun _ => True) a ns ∧ (∀ k ∈ ns, Mt.Small m k) ∧ ns.length ≤ 9223372036854775807 := by
  obtain ⟨fuel, hf⟩ := h
  have hmem : d ∈ ds := List.mem_of_getElem? hd
  have hwt : ∀ k ∈ d.weights Try.prog 22, k ≤ reachBytes := fun k hk => by
    have := List.all_eq_true.1 hsz _ (DataW.weights_mem_each ht hd k hk)
    simpa using this
  have hbk : Rows.uptoBulk d ≤ 1048576 := Nat.le_trans (bulkAll_mem hmem) (of_decide_eq_true hk)
  rcases DataW.trod_slice Try.underlying22 hf with ⟨hcs, _⟩ | ⟨a', len', cap, elems, rest, n, hmn, hcs, hy2, _, hl, hm, hlen, hel, _, _⟩
  · simp [Value.cells] at hcs
    obtain ⟨rfl, rfl, rfl⟩ := hcs
    exact ⟨[], 0, rfl, .inl rfl, (fun k hk => by cases hk), by decide⟩
  · simp [Value.cells] at hcs
    obtain ⟨rfl, rfl, rfl⟩ := hcs
    replace hy2 := congrArg Prod.fst hy2
    simp only at hy2
    have hbk2 : Rows.uptoBulkAll (elems.map (·.1)) ≤ 1048576 := by
      have : Rows.uptoBulk d = Rows.uptoBulkAll (elems.map (·.1)) + Rows.uptoBulkAll (rest.map (·.1)) + 1 := by rw [hy2]; rfl
      omega
    rw [Try.cellsNode] at hel
    have hall : ∀ i : Nat, ∃ (q : Mt.Nd) (cs' : List Value), i < len → cs'.length = 3 ∧ (∀ j, j < 3 → W.cell? ((a'.add (i * 3)).add j) = cs'[j]?) ∧ IsNd W (fun _ => True) fuel (.agg cs'.toArray) q ∧ Mt.Small fuel q := by
      intro i
      by_cases hin : i < len
      · have h := hel i hin
        rw [List.getElem?_eq_getElem (by omega)] at h
        obtain ⟨cs', hc, ht'⟩ := Option.bind_eq_some_iff.1 h
        obtain ⟨_, hcl, hat⟩ := World.cells?_some hc
        have hmem' : elems[i].1 ∈ elems.map (·.1) := List.mem_map.2 ⟨elems[i], List.getElem_mem _, rfl⟩
        obtain ⟨q, hq, hqs⟩ := nodeS_of n cs' elems[i] hcl ht' (fun k hk => hwt k (by
          rw [hy2]; simp only [DataW.weights, Try.underlying22, List.mem_cons, List.mem_append]
          exact .inr (.inl (weightsAll_mem hmem' hk)))) (Nat.le_trans (bulkAll_mem hmem') hbk2)
        exact ⟨q, cs', fun _ => ⟨hcl, fun j hj => by rw [hat j hj], hq.mono (by omega) (fun _ _ _ => trivial), hqs.mono (by omega)⟩⟩
      · exact ⟨.mk 0 [] [], [], fun h => absurd h hin⟩
    let N := fun i => (hall i).choose
    refine ⟨(List.range len).map N, fuel, by simp, ?_, (fun k hk => by
      simp at hk
      obtain ⟨i, hi, rfl⟩ := hk
      obtain ⟨cs', hcs'⟩ := (hall i).choose_spec
      exact (hcs' hi).2.2.2), by simp; unfold maxLen at hm; omega⟩
    rcases Nat.eq_zero_or_pos len with h0 | h0
    · exact .inl (by simp [h0])
    · obtain ⟨b, off, spot⟩ := a'
      have hspot : spot = none := by
        obtain ⟨cs', hcs'⟩ := (hall 0).choose_spec
        obtain ⟨hcl, hat, _, _⟩ := hcs' h0
        have hc0 := hat 0 (by omega)
        rw [List.getElem?_eq_getElem (by omega)] at hc0
        simpa [Addr.add] using World.cell?_spot hc0
      subst hspot
      refine .inr ⟨b, off, rfl, trivial, fun i hi => ?_⟩
      have hin : i < len := by simpa using hi
      obtain ⟨cs', hcs'⟩ := (hall i).choose_spec
      obtain ⟨hcl, hat, hnd, _⟩ := hcs' hin
      match cs', hcl with
      | [x0, x1, x2], _ =>
        have g0 := hat 0 (by omega)
        have g1 := hat 1 (by omega)
        have g2 := hat 2 (by omega)
        rw [add_off, add_off] at g0 g1 g2
        refine ⟨x0, x1, x2, ?_, ?_, ?_, ?_⟩
        · rw [Nat.mul_comm 3 i]; simpa using g0
        · rw [Nat.mul_comm 3 i]; simpa using g1
        · rw [Nat.mul_comm 3 i]; simpa using g2
        · have e : ((List.range len).map N)[i] = N i := by simp
          rw [e]
          exact hnd
end Go.Proofs.Ytfnggifadhploaa
