/-
  A schema that came in, as an argument.
-/
import Derived.Test.YthkhicpkkmhfbaaScJ
import Derived.Test.YthkhicpkkmhfbaaRows
import Derived.SizedLaws
import Derived.OpenShut
import Derived.SliceStrings
import Derived.ProofKit
namespace Go.Proofs.Ythkhicpkkmhfbaa
open Go.RowKit

theorem bulk13_pos {H : Type} (d : DataW H) : 1 ≤ Rows.uptoBulk d := by
  cases d with
  | lit l => cases l <;> simp [Rows.uptoBulk]
  | _ => simp [Rows.uptoBulk]
theorem bulk13_len {H : Type} : ∀ (l : List (DataW H)), l.length ≤ Rows.uptoBulkAll l
  | [] => Nat.zero_le _
  | d :: r => by
    have h1 := bulk13_pos d
    have h2 := bulk13_len r
    simp only [List.length_cons, Rows.uptoBulkAll]; omega
theorem bulk13_mem {H : Type} : ∀ {l : List (DataW H)} {d : DataW H}, d ∈ l → Rows.uptoBulk d ≤ Rows.uptoBulkAll l
  | x :: r, d, h => by
    simp only [Rows.uptoBulkAll]
    rcases List.mem_cons.1 h with rfl | h
    · omega
    · have := bulk13_mem h; omega
theorem weightsAll_mem13 {H : Type} {P : Program} {e : TypeId} : ∀ {l : List (DataW H)} {d : DataW H} {n : Nat}, d ∈ l → n ∈ d.weights P e → n ∈ DataW.weightsAll P e l
  | _ :: l, d, n, h, hn => by
    simp only [DataW.weightsAll, List.mem_append]
    rcases List.mem_cons.1 h with rfl | h
    · exact .inl hn
    · exact .inr (weightsAll_mem13 h hn)
theorem cellsTy13 : Try.prog.cellsOf 35 = 4 := by kernel_rfl
theorem cellsOc13 : Try.prog.cellsOf 31 = 5 := by kernel_rfl
theorem cellsStr13 : Try.prog.cellsOf 9 = 1 := by kernel_rfl
theorem cellsInt13 : Try.prog.cellsOf 3 = 1 := by kernel_rfl
theorem cellsBool13 : Try.prog.cellsOf 4 = 1 := by kernel_rfl
theorem cellsStrs13 : Try.prog.cellsOf 29 = 1 := by kernel_rfl
theorem bytesTy13 : Try.prog.bytesOf 35 = 32 := by kernel_rfl
theorem bytesOc13 : Try.prog.bytesOf 31 = 88 := by kernel_rfl
theorem bytesStr13 : Try.prog.bytesOf 9 = 16 := by kernel_rfl
theorem addr13_none {w : World} {x : Addr} {v : Value} (h : w.cell? x = some v) : ∃ b off, x = ⟨b, off, none⟩ := by
  obtain ⟨b, off, spot⟩ := x
  have hs : spot = none := by simpa using World.cell?_spot h
  exact ⟨b, off, by rw [hs]⟩
theorem add13_zero (x : Addr) : x.add 0 = x := by obtain ⟨b, off, sp⟩ := x; unfold Addr.add; split <;> simp_all
set_option maxRecDepth 100000 in
/-- Names that came in, with what their texts weigh. -/
theorem open_nms {H : Type} {enc : TypeId × Value → H} {W : World} {fu : Nat} {cs : List Value} {x : DataW H × List MemPlace} (hf : DataW.trod enc Try.prog W 0 (fun _ => true) true fu 29 cs = some x) (h1 : cs.length = 1)
    (hw : ∀ k ∈ x.1.weights Try.prog 29, k ≤ reachBytes) : ∃ v l, cs = [v] ∧ IsNms W v l ∧ l.length ≤ 8796093022208 ∧ (∀ a ∈ l, a.length ≤ 140737488351232) ∧ l.length ≤ Rows.uptoBulk x.1 := by
  rcases DataW.trod_slice Try.underlying29 hf with ⟨hcs, _⟩ | ⟨y, l, cp, elems, rest, n, hmn, hcs, hy2, _, hl, hm, hlen, hel, _, _⟩
  · exact ⟨_, [], hcs, ⟨none, 0, rfl, by simp, Lib.hid fun j hj => absurd hj (by simp)⟩, by simp, by simp, Nat.zero_le _⟩
  · refine ⟨.slice (some y) l cp, ?_⟩
    rw [cellsStr13] at hel
    have hl16 : l * 16 ≤ 140737488351232 := by
      have := hw ((elems.length + rest.length) * 16) (by rw [hy2]; simp [DataW.weights, Try.underlying29, bytesStr13])
      simp only [reachBytes] at this
      omega
    have hex : ∀ i : Nat, ∃ a : List UInt8, i < l → W.cell? (y.add (i * 1)) = some (.string (Mt.str a)) ∧ a.length ≤ 140737488351232 := by
      intro i
      by_cases hin : i < l
      · have h := hel i hin
        rw [List.getElem?_eq_getElem (by omega)] at h
        obtain ⟨cs', hc, ht⟩ := Option.bind_eq_some_iff.1 h
        obtain ⟨_, hcl, hat⟩ := World.cells?_some hc
        have hmem : elems[i].1 ∈ elems.map (·.1) := List.mem_map.2 ⟨elems[i], List.getElem_mem _, rfl⟩
        obtain ⟨S, e0, hy0, _⟩ := DataW.trod_string Try.underlying9 (x := elems[i]) ht
        have hwe : S.data.toList.length ≤ reachBytes := hw _ (by
          rw [hy2]; simp only [DataW.weights, Try.underlying29, List.mem_cons, List.mem_append]
          exact .inr (.inl (weightsAll_mem13 hmem (by rw [hy0]; simp [DataW.weights]))))
        refine ⟨S.data.toList, fun _ => ⟨?_, hwe⟩⟩
        subst e0
        have := hat 0 (by decide); rw [add13_zero] at this; exact this
      · exact ⟨[], fun h => absurd h hin⟩
    obtain ⟨f, hfm⟩ := Classical.axiomOfChoice hex
    have hlD : ((List.range l).map f).length = l := by simp
    refine ⟨(List.range l).map f, by simpa [Value.cells] using hcs, ⟨some y, cp, by rw [hlD], by rw [hlD]; omega, Lib.hid fun j hj => ?_⟩, by rw [hlD]; omega, fun a ha => ?_, ?_⟩
    · have hin : j < l := by rw [hlD] at hj; exact hj
      have hv := (hfm 0 (by omega)).1
      rw [Nat.zero_mul, add13_zero] at hv
      obtain ⟨b, off, rfl⟩ := addr13_none hv
      have h2 := (hfm j hin).1
      rw [add_off, Nat.mul_one] at h2
      exact ⟨b, off, rfl, World.block_lt_of_cell? W _ hv, by simpa using h2⟩
    · obtain ⟨i, hi, rfl⟩ := List.mem_map.1 ha
      exact (hfm i (List.mem_range.1 hi)).2
    · have h1 : Rows.uptoBulk x.1 = Rows.uptoBulkAll (elems.map (·.1)) + Rows.uptoBulkAll (rest.map (·.1)) + 1 := by rw [hy2]; rfl
      have h2 := bulk13_len (elems.map (·.1))
      rw [List.length_map] at h2
      rw [hlD]
      omega
set_option maxRecDepth 100000 in
/-- Types that came in. -/
theorem open_tys {H : Type} {enc : TypeId × Value → H} {W : World} {fu : Nat} {cs : List Value} {x : DataW H × List MemPlace} (hf : DataW.trod enc Try.prog W 0 (fun _ => true) true fu 22 cs = some x)
    (hw : ∀ k ∈ x.1.weights Try.prog 22, k ≤ reachBytes) : ∃ v l, cs = [v] ∧ IsTys W v l ∧ l.length ≤ 4398046511104 ∧ ∀ a ∈ l, a.name.length ≤ 140737488351232 := by
  rcases DataW.trod_slice Try.underlying22 hf with ⟨hcs, _⟩ | ⟨y, l, cp, elems, rest, n, hmn, hcs, hy2, _, hl, hm, hlen, hel, _, _⟩
  · exact ⟨_, [], hcs, ⟨none, 0, rfl, by simp, Lib.hid fun j hj => absurd hj (by simp)⟩, by simp, by simp⟩
  · refine ⟨.slice (some y) l cp, ?_⟩
    rw [cellsTy13] at hel
    have hl32 : l * 32 ≤ 140737488351232 := by
      have := hw ((elems.length + rest.length) * 32) (by rw [hy2]; simp [DataW.weights, Try.underlying22, bytesTy13])
      simp only [reachBytes] at this
      omega
    have hex : ∀ i : Nat, ∃ a : Mt.Ty, i < l → (W.cell? (y.add (i * 4)) = some (.string (Mt.str a.name)) ∧ W.cell? ((y.add (i * 4)).add 1) = some (.int .i64 a.syn) ∧ W.cell? ((y.add (i * 4)).add 2) = some (.bool a.single) ∧ W.cell? ((y.add (i * 4)).add 3) = some (.bool a.oper)) ∧ a.name.length ≤ 140737488351232 := by
      intro i
      by_cases hin : i < l
      · have h := hel i hin
        rw [List.getElem?_eq_getElem (by omega)] at h
        obtain ⟨cs', hc, ht⟩ := Option.bind_eq_some_iff.1 h
        obtain ⟨_, hcl, hat⟩ := World.cells?_some hc
        have hmem : elems[i].1 ∈ elems.map (·.1) := List.mem_map.2 ⟨elems[i], List.getElem_mem _, rfl⟩
        have hwe : ∀ k ∈ elems[i].1.weights Try.prog 35, k ≤ reachBytes := fun k hk => hw k (by
          rw [hy2]; simp only [DataW.weights, Try.underlying22, List.mem_cons, List.mem_append]
          exact .inr (.inl (weightsAll_mem13 hmem hk)))
        obtain ⟨xs, m2, _, hxx, _, hxl, hg⟩ := DataW.trod_struct Try.underlying35 ht
        obtain ⟨c0, c1, c2, c3, rfl⟩ : ∃ c0 c1 c2 c3, cs' = [c0, c1, c2, c3] := by
          match cs', hcl with
          | [c0, c1, c2, c3], _ => exact ⟨c0, c1, c2, c3, rfl⟩
        obtain ⟨y0, y1, y2, y3, rfl⟩ : ∃ y0 y1 y2 y3, xs = [y0, y1, y2, y3] := by
          match xs, hxl with
          | [y0, y1, y2, y3], _ => exact ⟨y0, y1, y2, y3, rfl⟩
        · skip
          obtain ⟨S, e0, hy0, _⟩ := DataW.trod_string Try.underlying9 (x := y0) (by simpa [cellsStr13, Value.cells] using hg 0 _ rfl)
          obtain ⟨I, e1, _⟩ := DataW.trod_int Try.underlying3 (x := y1) (by simpa [cellsStr13, cellsInt13, Value.cells] using hg 1 _ rfl)
          obtain ⟨B1, e2, _⟩ := DataW.trod_bool Try.underlying4 (x := y2) (by simpa [cellsStr13, cellsInt13, cellsBool13, Value.cells] using hg 2 _ rfl)
          obtain ⟨B2, e3, _⟩ := DataW.trod_bool Try.underlying4 (x := y3) (by simpa [cellsStr13, cellsInt13, cellsBool13, Value.cells] using hg 3 _ rfl)
          simp only [List.cons.injEq, and_true] at e0 e1 e2 e3
          subst e0 e1 e2 e3
          have hx1 : elems[i].1 = .agg [y0.1, y1.1, y2.1, y3.1] := by rw [hxx]; rfl
          have hs0 : S.data.toList.length ≤ reachBytes := hwe _ (by
            rw [hx1]; simp only [DataW.weights, Try.underlying35, List.map_cons, List.map_nil, DataW.weightsEach, List.mem_append]
            exact .inl (by rw [hy0]; simp [DataW.weights]))
          refine ⟨⟨S.data.toList, I, B1, B2⟩, fun _ => ⟨⟨?_, hat 1 (by decide), hat 2 (by decide), hat 3 (by decide)⟩, hs0⟩⟩
          have := hat 0 (by decide); rw [add13_zero] at this; exact this
      · exact ⟨Mt.noTy, fun h => absurd h hin⟩
    obtain ⟨f, hfm⟩ := Classical.axiomOfChoice hex
    have hlD : ((List.range l).map f).length = l := by simp
    refine ⟨(List.range l).map f, by simpa [Value.cells] using hcs, ⟨some y, cp, by rw [hlD], by rw [hlD]; omega, Lib.hid fun j hj => ?_⟩, by rw [hlD]; omega, fun a ha => ?_⟩
    · have hin : j < l := by rw [hlD] at hj; exact hj
      have hv := (hfm 0 (by omega)).1.1
      rw [Nat.zero_mul, add13_zero] at hv
      obtain ⟨b, off, rfl⟩ := addr13_none hv
      have h2 := (hfm j hin).1
      rw [add_off, add_off, add_off, add_off] at h2
      exact ⟨b, off, rfl, World.block_lt_of_cell? W _ hv, by simpa using h2.1, by simpa using h2.2.1, by simpa using h2.2.2.1, by simpa using h2.2.2.2⟩
    · obtain ⟨i, hi, rfl⟩ := List.mem_map.1 ha
      exact (hfm i (List.mem_range.1 hi)).2
set_option maxRecDepth 100000 in
set_option maxHeartbeats 1000000 in
/-- Classes that came in. -/
theorem open_cls {H : Type} {enc : TypeId × Value → H} {W : World} {fu : Nat} {cs : List Value} {x : DataW H × List MemPlace} (hf : DataW.trod enc Try.prog W 0 (fun _ => true) true fu 23 cs = some x)
    (hw : ∀ k ∈ x.1.weights Try.prog 23, k ≤ reachBytes) : ∃ v l, cs = [v] ∧ IsCls W v l ∧ l.length ≤ 4398046511104 ∧ (∀ c ∈ l, c.name.length ≤ 140737488351232 ∧ c.sup.length ≤ 140737488351232 ∧ c.must.length ≤ 8796093022208 ∧ c.may.length ≤ 8796093022208 ∧ (∀ n ∈ c.must, n.length ≤ 140737488351232) ∧ ∀ n ∈ c.may, n.length ≤ 140737488351232) ∧ ∀ c ∈ l, c.must.length + c.may.length ≤ Rows.uptoBulk x.1 := by
  rcases DataW.trod_slice Try.underlying23 hf with ⟨hcs, _⟩ | ⟨y, l, cp, elems, rest, n, hmn, hcs, hy2, _, hl, hm, hlen, hel, _, _⟩
  · exact ⟨_, [], hcs, ⟨none, 0, rfl, by simp, Lib.hid fun j hj => absurd hj (by simp)⟩, by simp, by simp, by simp⟩
  · refine ⟨.slice (some y) l cp, ?_⟩
    rw [cellsOc13] at hel
    have hl88 : l * 88 ≤ 140737488351232 := by
      have := hw ((elems.length + rest.length) * 88) (by rw [hy2]; simp [DataW.weights, Try.underlying23, bytesOc13])
      simp only [reachBytes] at this
      omega
    have hex : ∀ i : Nat, ∃ q : Mt.Cl × Value × Value, i < l → ((W.cell? (y.add (i * 5)) = some (.string (Mt.str q.1.name)) ∧ W.cell? ((y.add (i * 5)).add 1) = some (.string (Mt.str q.1.sup)) ∧ W.cell? ((y.add (i * 5)).add 2) = some (.int .i64 q.1.kind) ∧ W.cell? ((y.add (i * 5)).add 3) = some q.2.1 ∧ W.cell? ((y.add (i * 5)).add 4) = some q.2.2) ∧ IsNms W q.2.1 q.1.must ∧ IsNms W q.2.2 q.1.may) ∧ (q.1.name.length ≤ 140737488351232 ∧ q.1.sup.length ≤ 140737488351232 ∧ q.1.must.length ≤ 8796093022208 ∧ q.1.may.length ≤ 8796093022208 ∧ (∀ n ∈ q.1.must, n.length ≤ 140737488351232) ∧ ∀ n ∈ q.1.may, n.length ≤ 140737488351232) ∧ q.1.must.length + q.1.may.length ≤ Rows.uptoBulk x.1 := by
      intro i
      by_cases hin : i < l
      · have h := hel i hin
        rw [List.getElem?_eq_getElem (by omega)] at h
        obtain ⟨cs', hc, ht⟩ := Option.bind_eq_some_iff.1 h
        obtain ⟨_, hcl, hat⟩ := World.cells?_some hc
        have hmem : elems[i].1 ∈ elems.map (·.1) := List.mem_map.2 ⟨elems[i], List.getElem_mem _, rfl⟩
        have hwe : ∀ k ∈ elems[i].1.weights Try.prog 31, k ≤ reachBytes := fun k hk => hw k (by
          rw [hy2]; simp only [DataW.weights, Try.underlying23, List.mem_cons, List.mem_append]
          exact .inr (.inl (weightsAll_mem13 hmem hk)))
        obtain ⟨xs, m2, _, hxx, _, hxl, hg⟩ := DataW.trod_struct Try.underlying31 ht
        obtain ⟨c0, c1, c2, c3, c4, rfl⟩ : ∃ c0 c1 c2 c3 c4, cs' = [c0, c1, c2, c3, c4] := by
          match cs', hcl with
          | [c0, c1, c2, c3, c4], _ => exact ⟨c0, c1, c2, c3, c4, rfl⟩
        obtain ⟨y0, y1, y2, y3, y4, rfl⟩ : ∃ y0 y1 y2 y3 y4, xs = [y0, y1, y2, y3, y4] := by
          match xs, hxl with
          | [y0, y1, y2, y3, y4], _ => exact ⟨y0, y1, y2, y3, y4, rfl⟩
        · skip
          have hx1 : elems[i].1 = .agg [y0.1, y1.1, y2.1, y3.1, y4.1] := by rw [hxx]; rfl
          have hw3 : ∀ k ∈ y3.1.weights Try.prog 29, k ≤ reachBytes := fun k hk => hwe k (by
            rw [hx1]; simp only [DataW.weights, Try.underlying31, List.map_cons, List.map_nil, DataW.weightsEach, List.mem_append]
            exact .inr (.inr (.inr (.inl hk))))
          have hw4 : ∀ k ∈ y4.1.weights Try.prog 29, k ≤ reachBytes := fun k hk => hwe k (by
            rw [hx1]; simp only [DataW.weights, Try.underlying31, List.map_cons, List.map_nil, DataW.weightsEach, List.mem_append]
            exact .inr (.inr (.inr (.inr (.inl hk)))))
          obtain ⟨S, e0, hy0, _⟩ := DataW.trod_string Try.underlying9 (x := y0) (by simpa [cellsStr13, Value.cells] using hg 0 _ rfl)
          obtain ⟨U, e1, hy1, _⟩ := DataW.trod_string Try.underlying9 (x := y1) (by simpa [cellsStr13, Value.cells] using hg 1 _ rfl)
          obtain ⟨I, e2, _⟩ := DataW.trod_int Try.underlying3 (x := y2) (by simpa [cellsStr13, cellsInt13, Value.cells] using hg 2 _ rfl)
          obtain ⟨v3, l3, e3, hn3, hb3, hs3, hk3⟩ := open_nms (x := y3) (cs := [c3]) (by simpa [cellsStr13, cellsInt13, cellsStrs13, Value.cells] using hg 3 _ rfl) rfl hw3
          obtain ⟨v4, l4, e4, hn4, hb4, hs4, hk4⟩ := open_nms (x := y4) (cs := [c4]) (by simpa [cellsStr13, cellsInt13, cellsStrs13, Value.cells] using hg 4 _ rfl) rfl hw4
          simp only [List.cons.injEq, and_true] at e0 e1 e2 e3 e4
          subst e0 e1 e2 e3 e4
          have hs0 : S.data.toList.length ≤ reachBytes := hwe _ (by
            rw [hx1]; simp only [DataW.weights, Try.underlying31, List.map_cons, List.map_nil, DataW.weightsEach, List.mem_append]
            exact .inl (by rw [hy0]; simp [DataW.weights]))
          have hs1 : U.data.toList.length ≤ reachBytes := hwe _ (by
            rw [hx1]; simp only [DataW.weights, Try.underlying31, List.map_cons, List.map_nil, DataW.weightsEach, List.mem_append]
            exact .inr (.inl (by rw [hy1]; simp [DataW.weights])))
          have hbe : Rows.uptoBulk elems[i].1 = Rows.uptoBulkAll [y0.1, y1.1, y2.1, y3.1, y4.1] + 1 := by rw [hx1]; rfl
          have hbm := bulk13_mem hmem
          have hbx : Rows.uptoBulk x.1 = Rows.uptoBulkAll (elems.map (·.1)) + Rows.uptoBulkAll (rest.map (·.1)) + 1 := by rw [hy2]; rfl
          simp only [Rows.uptoBulkAll] at hbe
          refine ⟨(⟨S.data.toList, U.data.toList, I, l3, l4⟩, c3, c4), fun _ => ⟨⟨⟨?_, hat 1 (by decide), hat 2 (by decide), hat 3 (by decide), hat 4 (by decide)⟩, hn3, hn4⟩, ⟨hs0, hs1, hb3, hb4, hs3, hs4⟩, by show l3.length + l4.length ≤ _; omega⟩⟩
          have := hat 0 (by decide); rw [add13_zero] at this; exact this
      · exact ⟨(Mt.noCl, .bool false, .bool false), fun h => absurd h hin⟩
    obtain ⟨f, hfm⟩ := Classical.axiomOfChoice hex
    have hlD : ((List.range l).map fun i => (f i).1).length = l := by simp
    refine ⟨(List.range l).map fun i => (f i).1, by simpa [Value.cells] using hcs, ⟨some y, cp, by rw [hlD], by rw [hlD]; omega, Lib.hid fun j hj => ?_⟩, by rw [hlD]; omega, fun a ha => ?_, fun a ha => ?_⟩
    · have hin : j < l := by rw [hlD] at hj; exact hj
      have hv := (hfm 0 (by omega)).1.1.1
      rw [Nat.zero_mul, add13_zero] at hv
      obtain ⟨b, off, rfl⟩ := addr13_none hv
      obtain ⟨⟨h0, h1, h2, h3, h4⟩, h5, h6⟩ := (hfm j hin).1
      rw [add_off] at h0 h1 h2 h3 h4
      rw [add_off] at h1 h2 h3 h4
      exact ⟨b, off, (f j).2.1, (f j).2.2, rfl, World.block_lt_of_cell? W _ hv, by simpa using h0, by simpa using h1, by simpa using h2, by simpa using h3, by simpa using h4, by simpa using h5, by simpa using h6⟩
    · obtain ⟨i, hi, rfl⟩ := List.mem_map.1 ha
      exact (hfm i (List.mem_range.1 hi)).2.1
    · obtain ⟨i, hi, rfl⟩ := List.mem_map.1 ha
      exact (hfm i (List.mem_range.1 hi)).2.2
open Go.ChangeShapes Go.WideShapes Go.ChangeAt
theorem cellsSch13 : Try.prog.cellsOf 25 = 2 := by kernel_rfl
theorem cellsTys13 : Try.prog.cellsOf 22 = 1 := by kernel_rfl
theorem cellsOcs13 : Try.prog.cellsOf 23 = 1 := by kernel_rfl
set_option maxRecDepth 100000 in
theorem open_sch {H : Type} {enc : TypeId × Value → H} {W : World} {r : Reach} {b0 : Nat} {v : Value} {d : DataW H} {p : List MemPlace} {ts : List TypeId} {ds : List (DataW H)} {j : Nat} (hv : Value.okWide Try.prog W r b0 25 v) (h : DataW.Trod enc Try.prog W 0 (fun _ => true) true 25 v d p)
    (ht : ts[j]? = some 25) (hd : ds[j]? = some d) (hsz : (DataW.weightsEach Try.prog ts ds).all (· ≤ reachBytes) = true) : ∃ (tv cv : Value) (s : Mt.Sc), v = .agg #[tv, cv] ∧ IsSc W tv cv s := by
  have hwt : ∀ k ∈ d.weights Try.prog 25, k ≤ reachBytes := fun k hk => by
    have := List.all_eq_true.1 hsz _ (DataW.weights_mem_each ht hd k hk)
    simpa using this
  obtain ⟨cs, rfl, hz⟩ := okWide_struct Try.underlying25 hv
  rw [cellsSch13] at hz
  obtain ⟨fuel, hf⟩ := h
  obtain ⟨l⟩ := cs
  obtain ⟨c0, c1, rfl⟩ : ∃ c0 c1, l = [c0, c1] := by
    match l, hz with
    | [c0, c1], _ => exact ⟨c0, c1, rfl⟩
  have hf2 : DataW.trod enc Try.prog W 0 (fun _ => true) true fuel 25 [c0, c1] = some (d, p) := by simpa [Value.cells] using hf
  obtain ⟨xs, m2, _, hxx, _, hxl, hg⟩ := DataW.trod_struct Try.underlying25 hf2
  obtain ⟨y0, y1, rfl⟩ : ∃ y0 y1, xs = [y0, y1] := by
    match xs, hxl with
    | [y0, y1], _ => exact ⟨y0, y1, rfl⟩
  have hx1 : d = .agg [y0.1, y1.1] := by simpa using congrArg Prod.fst hxx
  obtain ⟨tv, tl, e0, h0, n0, m0⟩ := open_tys (x := y0) (by simpa [cellsTys13, Value.cells] using hg 0 _ rfl) (fun k hk => hwt k (by
    rw [hx1]; simp only [DataW.weights, Try.underlying25, List.map_cons, List.map_nil, DataW.weightsEach, List.mem_append]
    exact .inl hk))
  obtain ⟨cv, cl, e1, h1, n1, m1, -⟩ := open_cls (x := y1) (by simpa [cellsTys13, cellsOcs13, Value.cells] using hg 1 _ rfl) (fun k hk => hwt k (by
    rw [hx1]; simp only [DataW.weights, Try.underlying25, List.map_cons, List.map_nil, DataW.weightsEach, List.mem_append]
    exact .inr (.inl hk)))
  simp only [List.cons.injEq, and_true] at e0 e1
  subst e0 e1
  exact ⟨c0, c1, ⟨tl, cl⟩, rfl, h0, h1, n0, n1, m0, m1⟩

set_option maxRecDepth 100000 in
theorem open_schS {H : Type} {enc : TypeId × Value → H} {W : World} {r : Reach} {b0 : Nat} {v : Value} {d : DataW H} {p : List MemPlace} {ts : List TypeId} {ds : List (DataW H)} {j : Nat} (hv : Value.okWide Try.prog W r b0 25 v) (h : DataW.Trod enc Try.prog W 0 (fun _ => true) true 25 v d p)
    (ht : ts[j]? = some 25) (hd : ds[j]? = some d) (hsz : (DataW.weightsEach Try.prog ts ds).all (· ≤ reachBytes) = true) (hk : Rows.uptoSmall H ds = true) : ∃ (tv cv : Value) (s : Mt.Sc), v = .agg #[tv, cv] ∧ IsSc W tv cv s ∧ ∀ c ∈ s.classes, c.must.length + c.may.length ≤ 1048576 := by
  have hwt : ∀ k ∈ d.weights Try.prog 25, k ≤ reachBytes := fun k hk => by
    have := List.all_eq_true.1 hsz _ (DataW.weights_mem_each ht hd k hk)
    simpa using this
  obtain ⟨cs, rfl, hz⟩ := okWide_struct Try.underlying25 hv
  rw [cellsSch13] at hz
  obtain ⟨fuel, hf⟩ := h
  obtain ⟨l⟩ := cs
  obtain ⟨c0, c1, rfl⟩ : ∃ c0 c1, l = [c0, c1] := by
    match l, hz with
    | [c0, c1], _ => exact ⟨c0, c1, rfl⟩
  have hf2 : DataW.trod enc Try.prog W 0 (fun _ => true) true fuel 25 [c0, c1] = some (d, p) := by simpa [Value.cells] using hf
  obtain ⟨xs, m2, _, hxx, _, hxl, hg⟩ := DataW.trod_struct Try.underlying25 hf2
  obtain ⟨y0, y1, rfl⟩ : ∃ y0 y1, xs = [y0, y1] := by
    match xs, hxl with
    | [y0, y1], _ => exact ⟨y0, y1, rfl⟩
  have hx1 : d = .agg [y0.1, y1.1] := by simpa using congrArg Prod.fst hxx
  obtain ⟨tv, tl, e0, h0, n0, m0⟩ := open_tys (x := y0) (by simpa [cellsTys13, Value.cells] using hg 0 _ rfl) (fun k hk => hwt k (by
    rw [hx1]; simp only [DataW.weights, Try.underlying25, List.map_cons, List.map_nil, DataW.weightsEach, List.mem_append]
    exact .inl hk))
  obtain ⟨cv, cl, e1, h1, n1, m1, k1⟩ := open_cls (x := y1) (by simpa [cellsTys13, cellsOcs13, Value.cells] using hg 1 _ rfl) (fun k hk => hwt k (by
    rw [hx1]; simp only [DataW.weights, Try.underlying25, List.map_cons, List.map_nil, DataW.weightsEach, List.mem_append]
    exact .inr (.inl hk)))
  simp only [List.cons.injEq, and_true] at e0 e1
  subst e0 e1
  have hbk : Rows.uptoBulk d ≤ 1048576 := Nat.le_trans (bulk13_mem (List.mem_of_getElem? hd)) (of_decide_eq_true hk)
  have hbd : Rows.uptoBulk d = Rows.uptoBulkAll [y0.1, y1.1] + 1 := by rw [hx1]; rfl
  simp only [Rows.uptoBulkAll] at hbd
  exact ⟨c0, c1, ⟨tl, cl⟩, rfl, ⟨h0, h1, n0, n1, m0, m1⟩, fun c hc => by have := k1 c hc; omega⟩
/-- Names that came in, as an argument. -/
theorem open_nmsA {H : Type} {enc : TypeId × Value → H} {W : World} {a : Option Addr} {n c : Nat} {d : DataW H} {p : List MemPlace} {ts : List TypeId} {ds : List (DataW H)} {j : Nat} (h : DataW.Trod enc Try.prog W 0 (fun _ => true) true 29 (.slice a n c) d p)
    (ht : ts[j]? = some 29) (hd : ds[j]? = some d) (hsz : (DataW.weightsEach Try.prog ts ds).all (· ≤ reachBytes) = true) : ∃ l, IsNms W (.slice a n c) l ∧ FitN l := by
  have hwt : ∀ k ∈ d.weights Try.prog 29, k ≤ reachBytes := fun k hk => by
    have := List.all_eq_true.1 hsz _ (DataW.weights_mem_each ht hd k hk)
    simpa using this
  obtain ⟨fuel, hf⟩ := h
  have hf2 : DataW.trod enc Try.prog W 0 (fun _ => true) true fuel 29 [.slice a n c] = some (d, p) := by simpa [Value.cells] using hf
  obtain ⟨v, l, e, hl, hn, hs, -⟩ := open_nms hf2 rfl hwt
  simp only [List.cons.injEq, and_true] at e
  subst e
  exact ⟨l, hl, hn, hs⟩
end Go.Proofs.Ythkhicpkkmhfbaa
