/-
  Some texts of one proof, one behind the other.
-/
import Derived.Test.YtngdbhncafnliaaGreatRows
import Derived.ProofKit
import Derived.SizedLaws
import Derived.OpenShut
import Derived.Test.YtngdbhncafnliaaGreatPk43
import Derived.Test.YtngdbhncafnliaaGreatPk49
import Derived.Test.YtngdbhncafnliaaGreatPk51
set_option linter.unusedVariables false
set_option linter.unusedSimpArgs false

/-
  Attributes that came in, opened; names of attributes one behind the other.
-/
namespace Go.Proofs.YtngdbhncafnliaaGreat
open Go.RowKit Go.Deep Go.ChangeShapes Go.WideShapes Go.ChangeAt
set_option linter.unusedVariables false

theorem cellsAttr22 : Tryz.prog.cellsOf 49 = 2 := by kernel_rfl
theorem bytesAttr22 : Tryz.prog.bytesOf 49 = 40 := by kernel_rfl
/-- Attributes that fit into what may come in. -/
def FitAt (l : List Mt.At) : Prop := l.length * 40 ≤ 140737488351232 ∧ ∀ a ∈ l, a.1.length ≤ 140737488351232 ∧ a.2.length ≤ 8796093022208
set_option maxRecDepth 100000 in
set_option maxHeartbeats 1000000 in
theorem open_atsF {H : Type} {enc : TypeId × Value → H} {W : World} {fu : Nat} {cs : List Value} {x : DataW H × List MemPlace} (hf : DataW.trod enc Tryz.prog W 0 (fun _ => true) true fu 41 cs = some x)
    (hw : ∀ k ∈ x.1.weights Tryz.prog 41, k ≤ reachBytes) : ∃ v l, cs = [v] ∧ IsAts W v l ∧ FitAt l := by
  rcases DataW.trod_slice Tryz.underlying41 hf with ⟨hcs, _⟩ | ⟨y, l, cp, elems, rest, n, hmn, hcs, hy2, _, hl, hm, hlen, hel, _, _⟩
  · exact ⟨_, [], hcs, ⟨none, 0, rfl, by simp, Lib.hid fun j hj => absurd hj (by simp)⟩, by simp [FitAt]⟩
  · refine ⟨.slice (some y) l cp, ?_⟩
    rw [cellsAttr22] at hel
    have hl40 : l * 40 ≤ 140737488351232 := by
      have := hw ((elems.length + rest.length) * 40) (by rw [hy2]; simp [DataW.weights, Tryz.underlying41, bytesAttr22])
      simp only [reachBytes] at this
      omega
    have hex : ∀ i : Nat, ∃ q : Mt.At × Value, i < l → ((W.cell? (y.add (i * 2)) = some (.string (Mt.str q.1.1)) ∧ W.cell? ((y.add (i * 2)).add 1) = some q.2) ∧ IsNms W q.2 q.1.2) ∧ q.1.1.length ≤ 140737488351232 ∧ q.1.2.length ≤ 8796093022208 := by
      intro i
      by_cases hin : i < l
      · have h := hel i hin
        rw [List.getElem?_eq_getElem (by omega)] at h
        obtain ⟨cs', hc, ht⟩ := Option.bind_eq_some_iff.1 h
        obtain ⟨_, hcl, hat⟩ := World.cells?_some hc
        have hmem : elems[i].1 ∈ elems.map (·.1) := List.mem_map.2 ⟨elems[i], List.getElem_mem _, rfl⟩
        have hwe : ∀ k ∈ elems[i].1.weights Tryz.prog 49, k ≤ reachBytes := fun k hk => hw k (by
          rw [hy2]; simp only [DataW.weights, Tryz.underlying41, List.mem_cons, List.mem_append]
          exact .inr (.inl (weightsAll_mem13 hmem hk)))
        obtain ⟨xs, m2, _, hxx, _, hxl, hg⟩ := DataW.trod_struct Tryz.underlying49 ht
        obtain ⟨c0, c1, rfl⟩ : ∃ c0 c1, cs' = [c0, c1] := by
          match cs', hcl with
          | [c0, c1], _ => exact ⟨c0, c1, rfl⟩
        obtain ⟨y0, y1, rfl⟩ : ∃ y0 y1, xs = [y0, y1] := by
          match xs, hxl with
          | [y0, y1], _ => exact ⟨y0, y1, rfl⟩
        have hx1 : elems[i].1 = .agg [y0.1, y1.1] := by rw [hxx]; rfl
        have hw1 : ∀ k ∈ y1.1.weights Tryz.prog 47, k ≤ reachBytes := fun k hk => hwe k (by
          rw [hx1]; simp only [DataW.weights, Tryz.underlying49, List.map_cons, List.map_nil, DataW.weightsEach, List.mem_append]
          exact .inr (.inl hk))
        obtain ⟨S, e0, hy0, _⟩ := DataW.trod_string Tryz.underlying9 (x := y0) (by simpa [cellsStr13, Value.cells] using hg 0 _ rfl)
        obtain ⟨v1, l1, e1, hn1, hb1, hs1, hk1⟩ := open_nms (x := y1) (cs := [c1]) (by simpa [cellsStr13, cellsStrs13, Value.cells] using hg 1 _ rfl) rfl hw1
        simp only [List.cons.injEq, and_true] at e0 e1
        subst e0 e1
        have hs0 : S.data.toList.length ≤ reachBytes := hwe _ (by
          rw [hx1]; simp only [DataW.weights, Tryz.underlying49, List.map_cons, List.map_nil, DataW.weightsEach, List.mem_append]
          exact .inl (by rw [hy0]; simp [DataW.weights]))
        refine ⟨((S.data.toList, l1), c1), fun _ => ⟨⟨⟨?_, hat 1 (by decide)⟩, hn1⟩, hs0, hb1⟩⟩
        have := hat 0 (by decide); rw [add13_zero] at this; exact this
      · exact ⟨(([], []), .bool false), fun h => absurd h hin⟩
    obtain ⟨f, hfm⟩ := Classical.axiomOfChoice hex
    have hlD : ((List.range l).map fun i => (f i).1).length = l := by simp
    refine ⟨(List.range l).map fun i => (f i).1, by simpa [Value.cells] using hcs, ⟨some y, cp, by rw [hlD], by rw [hlD]; omega, Lib.hid fun j hj => ?_⟩, by rw [hlD]; exact hl40, fun a ha => ?_⟩
    · have hin : j < l := by rw [hlD] at hj; exact hj
      have hv := (hfm 0 (by omega)).1.1.1
      rw [Nat.zero_mul, add13_zero] at hv
      obtain ⟨b, off, rfl⟩ := addr13_none hv
      obtain ⟨⟨h0, h1⟩, h5⟩ := (hfm j hin).1
      rw [add_off] at h0 h1
      rw [add_off] at h1
      exact ⟨b, off, (f j).2, rfl, World.block_lt_of_cell? W _ hv, by simpa using h0, by simpa using h1, by simpa using h5⟩
    · obtain ⟨i, hi, rfl⟩ := List.mem_map.1 ha
      exact (hfm i (List.mem_range.1 hi)).2
theorem open_atsA {H : Type} {enc : TypeId × Value → H} {W : World} {a : Option Addr} {n c : Nat} {d : DataW H} {p : List MemPlace} {ts : List TypeId} {ds : List (DataW H)} {j : Nat} (h : DataW.Trod enc Tryz.prog W 0 (fun _ => true) true 41 (.slice a n c) d p)
    (ht : ts[j]? = some 41) (hd : ds[j]? = some d) (hsz : (DataW.weightsEach Tryz.prog ts ds).all (· ≤ reachBytes) = true) : ∃ l, IsAts W (.slice a n c) l ∧ FitAt l := by
  have hwt : ∀ k ∈ d.weights Tryz.prog 41, k ≤ reachBytes := fun k hk => by
    have := List.all_eq_true.1 hsz _ (DataW.weights_mem_each ht hd k hk)
    simpa using this
  obtain ⟨fuel, hf⟩ := h
  have hf2 : DataW.trod enc Tryz.prog W 0 (fun _ => true) true fuel 41 [.slice a n c] = some (d, p) := by simpa [Value.cells] using hf
  obtain ⟨v, l, e, hl, hn⟩ := open_atsF hf2 hwt
  simp only [List.cons.injEq, and_true] at e
  subst e
  exact ⟨l, hl, hn⟩
/-- One name more. -/
theorem name_push {base : Nat} {u u1 : World} {v : Value} {n : Nat} {l1 : List (List UInt8)} {nm : List UInt8} (h : IsOwn 9 1 base u1 v n (nms l1)) (hb : Below u1.heap.size u1 u) (hbase : base ≤ u1.heap.size) (hn : (n + 1) * 16 ≤ 140737488355328) :
    ∃ a3 c3 u3, (∀ ty, (Builtin.append_ #[47, 47] ty #[v, .slice (some ⟨u.heap.size, 0, none⟩) 1 1]).run Tryz.prog (u.alloc (.cells #[.string (Mt.str nm)] 9)) = .ok (.slice a3 (n + 1) c3) u3) ∧ IsOwn 9 1 base u3 (.slice a3 (n + 1) c3) (n + 1) (nms (l1 ++ [nm])) ∧ Below base u u3 := by
  obtain ⟨i0, hi, hz0, hz1, hz2⟩ := info_parts Tryz.infoStr13
  obtain ⟨a3, c3, u3, hrun, hown, hbel⟩ := own_push (T := 47) (tx := 47) Tryz.underlying47 Tryz.underlying47 hi hz0 hz1 hz2 rfl (h.below hb) (Nat.le_trans hbase hb.size) (nms_one _) #[.string (Mt.str nm)] rfl (by simp [Value.oneCell']) hn (by omega)
  exact ⟨a3, c3, u3, hrun, by simpa [nms] using hown, hbel⟩
end Go.Proofs.YtngdbhncafnliaaGreat
