/-
  A tree of elements that came in, read.
-/
import Derived.Test.YtfnggifadhploaaTvS
import Derived.ProofKit
import Derived.OpenShut
import Derived.SizedLaws
import Derived.Deep.Slices
namespace Go.Proofs.Ytfnggifadhploaa
open Go.RowKit Go.ChangeShapes Go.WideShapes Go.ChangeAt

theorem Try.cellsNode : Try.prog.cellsOf 24 = 3 := by kernel_rfl
theorem Try.cellsTInt : Try.prog.cellsOf 3 = 1 := by kernel_rfl
theorem Try.cellsTStr : Try.prog.cellsOf 9 = 1 := by kernel_rfl
theorem Try.cellsTNodes : Try.prog.cellsOf 22 = 1 := by kernel_rfl
theorem Try.bytesNode : Try.prog.bytesOf 24 = 48 := by kernel_rfl
theorem weightsAll_mem {H : Type} {P : Program} {e : TypeId} : ∀ {l : List (DataW H)} {d : DataW H} {n : Nat}, d ∈ l → n ∈ d.weights P e → n ∈ DataW.weightsAll P e l
  | [], _, _, h, _ => by cases h
  | x :: r, d, n, h, hn => by
    simp only [DataW.weightsAll, List.mem_append]
    rcases List.mem_cons.1 h with rfl | h
    · exact .inl hn
    · exact .inr (weightsAll_mem h hn)

set_option maxRecDepth 100000 in
/-- Three cells that read as a node are one. -/
theorem node_of {H : Type} {enc : TypeId × Value → H} {W : World} : ∀ (fuel : Nat) (cs : List Value) (x : DataW H × List MemPlace), cs.length = 3 → DataW.trod enc Try.prog W 0 (fun _ => true) true fuel 24 cs = some x →
    (∀ k ∈ x.1.weights Try.prog 24, k ≤ reachBytes) → ∃ n, IsNd W (fun _ => True) (fuel + 1) (.agg cs.toArray) n := by
  intro fuel
  induction fuel using Nat.strongRecOn with
  | _ fuel ih =>
    intro cs x hz hf hwt
    obtain ⟨xs, m, hfm, hxx, _, hxl, hg⟩ := DataW.trod_struct Try.underlying24 hf
    match cs, hz, xs, hxl with
    | [c0, c1, c2], _, [y0, y1, y2], _ =>
      obtain ⟨t, e0, _⟩ := DataW.trod_int Try.underlying3 (x := y0) (by simpa [Try.cellsTInt, Value.cells] using hg 0 _ rfl)
      obtain ⟨s, e1, hy1, _⟩ := DataW.trod_string Try.underlying9 (x := y1) (by simpa [Try.cellsTStr, Try.cellsTInt, Value.cells] using hg 1 _ rfl)
      have h2 : DataW.trod enc Try.prog W 0 (fun _ => true) true m 22 [c2] = some y2 := by simpa [Try.cellsTNodes, Try.cellsTStr, Try.cellsTInt, Value.cells] using hg 2 _ rfl
      simp only [List.cons.injEq, and_true] at e0 e1
      subst e0 e1
      have hx1 : x.1 = .agg [y0.1, y1.1, y2.1] := by rw [hxx]; rfl
      have hw1 : ∀ k ∈ y1.1.weights Try.prog 9, k ≤ reachBytes := fun k hk => hwt k (by
        rw [hx1]; simp only [DataW.weights, Try.underlying24, List.map_cons, List.map_nil, DataW.weightsEach, List.mem_append]
        exact .inr (.inl hk))
      have hw2 : ∀ k ∈ y2.1.weights Try.prog 22, k ≤ reachBytes := fun k hk => hwt k (by
        rw [hx1]; simp only [DataW.weights, Try.underlying24, List.map_cons, List.map_nil, DataW.weightsEach, List.mem_append]
        exact .inr (.inr (.inl hk)))
      have hs : s.data.toList.length ≤ 140737488351232 := by
        have := hw1 s.data.toList.length (by rw [hy1]; simp [DataW.weights])
        simpa [reachBytes] using this
      rcases DataW.trod_slice Try.underlying22 h2 with ⟨hcs, _⟩ | ⟨a, len, cap, elems, rest, n, hmn, hcs, hy2, _, hl, hm, hlen, hel, _, _⟩
      · simp at hcs
        subst hcs
        exact ⟨.mk t s.data.toList [], none, 0, rfl, hs, by simp [Mt.Nd.kids], .inl rfl⟩
      · simp at hcs
        subst hcs
        have hel0 : len ≤ 2932031007402 := by
          have := hw2 ((elems.length + rest.length) * 48) (by rw [hy2]; simp [DataW.weights, Try.underlying22, Try.bytesNode])
          simp [reachBytes] at this
          omega
        rw [Try.cellsNode] at hel
        have hall : ∀ i : Nat, ∃ (q : Mt.Nd) (cs' : List Value), i < len → cs'.length = 3 ∧ (∀ j, j < 3 → W.cell? ((a.add (i * 3)).add j) = cs'[j]?) ∧ IsNd W (fun _ => True) fuel (.agg cs'.toArray) q := by
          intro i
          by_cases hin : i < len
          · have h := hel i hin
            rw [List.getElem?_eq_getElem (by omega)] at h
            obtain ⟨cs', hc, ht⟩ := Option.bind_eq_some_iff.1 h
            obtain ⟨_, hcl, hat⟩ := World.cells?_some hc
            have hmem : elems[i].1 ∈ elems.map (·.1) := List.mem_map.2 ⟨elems[i], List.getElem_mem _, rfl⟩
            obtain ⟨q, hq⟩ := ih n (by omega) cs' elems[i] hcl ht (fun k hk => hw2 k (by
              rw [hy2]; simp only [DataW.weights, Try.underlying22, List.mem_cons, List.mem_append]
              exact .inr (.inl (weightsAll_mem hmem hk))))
            exact ⟨q, cs', fun _ => ⟨hcl, fun j hj => by rw [hat j hj], hq.mono (by omega) (fun _ _ _ => trivial)⟩⟩
          · exact ⟨.mk 0 [] [], [], fun h => absurd h hin⟩
        let N := fun i => (hall i).choose
        refine ⟨.mk t s.data.toList ((List.range len).map N), some a, cap, by simp [Mt.Nd.kids, Mt.Nd.tag, Mt.Nd.data]; rfl, hs, by simp [Mt.Nd.kids]; exact hel0, ?_⟩
        rcases Nat.eq_zero_or_pos len with h0 | h0
        · exact .inl (by simp [Mt.Nd.kids, h0])
        · obtain ⟨b, off, spot⟩ := a
          have hspot : spot = none := by
            obtain ⟨cs', hcs'⟩ := (hall 0).choose_spec
            obtain ⟨hcl, hat, _⟩ := hcs' h0
            have hc0 := hat 0 (by omega)
            rw [List.getElem?_eq_getElem (by omega)] at hc0
            simpa [Addr.add] using World.cell?_spot hc0
          subst hspot
          refine .inr ⟨b, off, rfl, trivial, fun i hi => ?_⟩
          have hin : i < len := by simpa [Mt.Nd.kids] using hi
          obtain ⟨cs', hcs'⟩ := (hall i).choose_spec
          obtain ⟨hcl, hat, hnd⟩ := hcs' hin
          match cs', hcl with
          | [x0, x1, x2], _ =>
            have g0 := hat 0 (by omega)
            have g1 := hat 1 (by omega)
            have g2 := hat 2 (by omega)
            rw [add_off, add_off] at g0 g1 g2
            refine ⟨x0, x1, x2, ?_, ?_, ?_, ?_⟩
            · rw [Nat.mul_comm 3 i]; simpa using g0
            · rw [Nat.mul_comm 3 i]; simpa using g1
            · rw [Nat.mul_comm 3 i]; simpa using g2
            · have e : (Mt.Nd.kids (.mk t s.data.toList ((List.range len).map N)))[i] = N i := by simp [Mt.Nd.kids]
              rw [e]
              exact hnd

set_option maxRecDepth 100000 in
/-- A node that came in. -/
theorem open_node {H : Type} {enc : TypeId × Value → H} {W : World} {r : Reach} {b0 : Nat} {v : Value} {d : DataW H} {p : List MemPlace} {ts : List TypeId} {ds : List (DataW H)} {j : Nat} (hv : Value.okWide Try.prog W r b0 24 v) (h : DataW.Trod enc Try.prog W 0 (fun _ => true) true 24 v d p)
    (ht : ts[j]? = some 24) (hd : ds[j]? = some d) (hsz : (DataW.weightsEach Try.prog ts ds).all (· ≤ reachBytes) = true) : ∃ (n : Mt.Nd) (m : Nat), IsNd W (fun _ => True) m v n := by
  obtain ⟨cs, rfl, hz⟩ := okWide_struct Try.underlying24 hv
  rw [Try.cellsNode] at hz
  obtain ⟨fuel, hf⟩ := h
  obtain ⟨n, hn⟩ := node_of fuel cs.toList (d, p) (by simpa using hz) (by simpa [Value.cells] using hf) (fun k hk => by
    have := List.all_eq_true.1 hsz _ (DataW.weights_mem_each ht hd k hk)
    simpa using this)
  exact ⟨n, _, by simpa using hn⟩
end Go.Proofs.Ytfnggifadhploaa
