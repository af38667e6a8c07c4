/-
  Names that came in, with the sizes of their parts; what the document's Twin comes to.
-/
import Derived.Test.YthpedokhalndjabDnRh
import Derived.Test.YthpedokhalndjabDnQ
namespace Go.Proofs.Ythpedokhalndjab
open Go.RowKit Go.Deep

/-- A name whose parts fit into memory. -/
def Mt.FitD (d : List (List Mt.Av)) : Prop := d.length * 24 ≤ 140737488351232 ∧ ∀ r ∈ d, r.length * 32 ≤ 140737488351232 ∧ ∀ a ∈ r, a.1.length ≤ 140737488351232 ∧ a.2.length ≤ 140737488351232
theorem bytesRdn' : Try.prog.bytesOf 69 = 24 := by kernel_rfl
theorem bytesAva' : Try.prog.bytesOf 74 = 32 := by kernel_rfl
theorem weightsAll_mem9 {H : Type} {P : Program} {e : TypeId} : ∀ {l : List (DataW H)} {d : DataW H} {n : Nat}, d ∈ l → n ∈ d.weights P e → n ∈ DataW.weightsAll P e l
  | _ :: l, d, n, h, hn => by
    simp only [DataW.weightsAll, List.mem_append]
    rcases List.mem_cons.1 h with rfl | h
    · exact .inl hn
    · exact .inr (weightsAll_mem9 h hn)

set_option maxRecDepth 100000 in
/-- An RDN that came in. -/
theorem open_rdnW {H : Type} {enc : TypeId × Value → H} {W : World} {fu : Nat} {cs : List Value} {x : DataW H × List MemPlace} (hf : DataW.trod enc Try.prog W 0 (fun _ => true) true fu 69 cs = some x) (h1 : cs.length = 1)
    (hw : ∀ k ∈ x.1.weights Try.prog 69, k ≤ reachBytes) :
    ∃ v r, cs = [v] ∧ IsAvs W v r ∧ r.length * 32 ≤ 140737488351232 ∧ ∀ a ∈ r, a.1.length ≤ 140737488351232 ∧ a.2.length ≤ 140737488351232 := by
  rcases DataW.trod_slice Try.underlying69 hf with ⟨hcs, _⟩ | ⟨y, l, cp, elems, rest, n, hmn, hcs, hy2, _, hl, hm, hlen, hel, _, _⟩
  · exact ⟨_, [], hcs, ⟨none, 0, rfl, by simp, by simp, .inl rfl⟩, by simp, by simp⟩
  · refine ⟨.slice (some y) l cp, ?_⟩
    rw [cellsAva] at hel
    have hl32 : l * 32 ≤ 140737488351232 := by
      have := hw ((elems.length + rest.length) * 32) (by rw [hy2]; simp [DataW.weights, Try.underlying69, bytesAva'])
      simp only [reachBytes] at this
      omega
    have hex : ∀ i : Nat, ∃ a : Mt.Av, i < l → (W.cell? (y.add (i * 2)) = some (.string (Mt.str a.1)) ∧ W.cell? ((y.add (i * 2)).add 1) = some (.string (Mt.str a.2))) ∧ a.1.length ≤ 140737488351232 ∧ a.2.length ≤ 140737488351232 := by
      intro i
      by_cases hin : i < l
      · have h := hel i hin
        rw [List.getElem?_eq_getElem (by omega)] at h
        obtain ⟨cs', hc, ht⟩ := Option.bind_eq_some_iff.1 h
        obtain ⟨_, hcl, hat⟩ := World.cells?_some hc
        have hmem : elems[i].1 ∈ elems.map (·.1) := List.mem_map.2 ⟨elems[i], List.getElem_mem _, rfl⟩
        have hwe : ∀ k ∈ elems[i].1.weights Try.prog 74, k ≤ reachBytes := fun k hk => hw k (by
          rw [hy2]; simp only [DataW.weights, Try.underlying69, List.mem_cons, List.mem_append]
          exact .inr (.inl (weightsAll_mem9 hmem hk)))
        obtain ⟨xs, m2, _, hxx, _, hxl, hg⟩ := DataW.trod_struct Try.underlying74 ht
        obtain ⟨c0, c1, rfl⟩ : ∃ c0 c1, cs' = [c0, c1] := by
          match cs', hcl with
          | [c0, c1], _ => exact ⟨c0, c1, rfl⟩
        obtain ⟨y0, y1, rfl⟩ : ∃ y0 y1, xs = [y0, y1] := by
          match xs, hxl with
          | [y0, y1], _ => exact ⟨y0, y1, rfl⟩
        · skip
          obtain ⟨S, e0, hy0, _⟩ := DataW.trod_string Try.underlying9 (x := y0) (by simpa [cellsStr9, Value.cells] using hg 0 _ rfl)
          obtain ⟨T, e1, hy1, _⟩ := DataW.trod_string Try.underlying9 (x := y1) (by simpa [cellsStr9, Value.cells] using hg 1 _ rfl)
          simp only [List.cons.injEq, and_true] at e0 e1
          subst e0 e1
          have hx1 : elems[i].1 = .agg [y0.1, y1.1] := by rw [hxx]; rfl
          have hs0 : S.data.toList.length ≤ reachBytes := hwe _ (by
            rw [hx1]; simp only [DataW.weights, Try.underlying74, List.map_cons, List.map_nil, DataW.weightsEach, List.mem_append]
            exact .inl (by rw [hy0]; simp [DataW.weights]))
          have hs1 : T.data.toList.length ≤ reachBytes := hwe _ (by
            rw [hx1]; simp only [DataW.weights, Try.underlying74, List.map_cons, List.map_nil, DataW.weightsEach, List.mem_append]
            exact .inr (.inl (by rw [hy1]; simp [DataW.weights])))
          refine ⟨(S.data.toList, T.data.toList), fun _ => ⟨⟨?_, ?_⟩, hs0, hs1⟩⟩
          · have := hat 0 (by decide); rw [add9_zero] at this; exact this
          · exact hat 1 (by decide)
      · exact ⟨([], []), fun h => absurd h hin⟩
    obtain ⟨f, hfm⟩ := Classical.axiomOfChoice hex
    refine ⟨(List.range l).map f, by simpa [Value.cells] using hcs, ⟨some y, cp, by simp, by simp; unfold maxLen at hm; omega, by simp; omega, ?_⟩, by simpa using hl32, fun a ha => ?_⟩
    · rcases Nat.eq_zero_or_pos l with h0 | h0
      · subst h0; exact .inl rfl
      · have hv := (hfm 0 h0).1.1
        rw [Nat.zero_mul, add9_zero] at hv
        obtain ⟨b, off, rfl⟩ := addr9_none hv
        refine .inr ⟨b, off, rfl, World.block_lt_of_cell? W _ hv, fun j hj => ?_⟩
        have hin : j < l := by simpa using hj
        have h2 := (hfm j hin).1
        rw [add_off, add_off] at h2
        simpa using h2
    · obtain ⟨i, hi, rfl⟩ := List.mem_map.1 ha
      exact (hfm i (List.mem_range.1 hi)).2
set_option maxRecDepth 100000 in
/-- A name that came in. -/
theorem open_dnW {H : Type} {enc : TypeId × Value → H} {W : World} {a : Option Addr} {n c : Nat} {d : DataW H} {p : List MemPlace} {ts : List TypeId} {ds : List (DataW H)} {j : Nat}
    (h : DataW.Trod enc Try.prog W 0 (fun _ => true) true 43 (.slice a n c) d p) (ht : ts[j]? = some 43) (hd : ds[j]? = some d) (hsz : (DataW.weightsEach Try.prog ts ds).all (· ≤ reachBytes) = true) : ∃ D, IsDn W (.slice a n c) D ∧ Mt.FitD D := by
  have hwt : ∀ k ∈ d.weights Try.prog 43, k ≤ reachBytes := fun k hk => by
    have := List.all_eq_true.1 hsz _ (DataW.weights_mem_each ht hd k hk)
    simpa using this
  obtain ⟨fuel, hf⟩ := h
  rcases DataW.trod_slice Try.underlying43 hf with ⟨hcs, _⟩ | ⟨y, l, cp, elems, rest, n2, hmn, hcs, hy2, _, hl, hm, hlen, hel, _, _⟩
  · simp [Value.cells] at hcs
    obtain ⟨rfl, rfl, rfl⟩ := hcs
    exact ⟨[], ⟨none, 0, rfl, by simp, by simp, .inl rfl⟩, by simp [Mt.FitD]⟩
  · simp [Value.cells] at hcs
    obtain ⟨rfl, rfl, rfl⟩ := hcs
    have hy3 := congrArg Prod.fst hy2
    simp only at hy3
    rw [cellsRdn] at hel
    have hl24 : n * 24 ≤ 140737488351232 := by
      have := hwt ((elems.length + rest.length) * 24) (by rw [hy3]; simp [DataW.weights, Try.underlying43, bytesRdn'])
      simp only [reachBytes] at this
      omega
    have hex : ∀ i : Nat, ∃ q : Value × List Mt.Av, i < n → (W.cell? (y.add i) = some q.1 ∧ IsAvs W q.1 q.2) ∧ q.2.length * 32 ≤ 140737488351232 ∧ ∀ a ∈ q.2, a.1.length ≤ 140737488351232 ∧ a.2.length ≤ 140737488351232 := by
      intro i
      by_cases hin : i < n
      · have h := hel i hin
        rw [List.getElem?_eq_getElem (by omega)] at h
        obtain ⟨cs', hc, ht2⟩ := Option.bind_eq_some_iff.1 h
        rw [Nat.mul_one] at hc
        obtain ⟨_, hcl, hat⟩ := World.cells?_some hc
        have hmem : elems[i].1 ∈ elems.map (·.1) := List.mem_map.2 ⟨elems[i], List.getElem_mem _, rfl⟩
        obtain ⟨x, r, rfl, hr, hr2⟩ := open_rdnW ht2 (by simpa using hcl) (fun k hk => hwt k (by
          rw [hy3]; simp only [DataW.weights, Try.underlying43, List.mem_cons, List.mem_append]
          exact .inr (.inl (weightsAll_mem9 hmem hk))))
        refine ⟨(x, r), fun _ => ⟨⟨?_, hr⟩, hr2⟩⟩
        have := hat 0 (by decide); rw [add9_zero] at this; exact this
      · exact ⟨(.bool false, []), fun h => absurd h hin⟩
    obtain ⟨f, hfm⟩ := Classical.axiomOfChoice hex
    refine ⟨(List.range n).map fun i => (f i).2, ⟨some y, c, by simp, by simp; unfold maxLen at hm; omega, by simp; omega, ?_⟩, by simpa using hl24, fun r hr => ?_⟩
    · rcases Nat.eq_zero_or_pos n with h0 | h0
      · subst h0; exact .inl rfl
      · have hv := (hfm 0 h0).1.1
        rw [add9_zero] at hv
        obtain ⟨b, off, rfl⟩ := addr9_none hv
        refine .inr ⟨b, off, rfl, World.block_lt_of_cell? W _ hv, fun j hj => ?_⟩
        have hin : j < n := by simpa using hj
        have h2 := (hfm j hin).1
        rw [add_off] at h2
        exact ⟨_, h2.1, by simpa using h2.2⟩
    · obtain ⟨i, hi, rfl⟩ := List.mem_map.1 hr
      exact (hfm i (List.mem_range.1 hi)).2

/-- A part of a slice of types and values, of any size, behind one of the call's own. -/
theorem own_catB {base : Nat} {w : World} {v : Value} {l1 : List Mt.Av} (h : IsOwn 74 2 base w v l1.length (avs l1)) (hbase : base ≤ w.heap.size) (x : Value) (l2 : List Mt.Av) (src : Src Try.prog 2 69 x l2.length (avs l2) w) (hn : (l1.length + l2.length) * 32 ≤ 140737488355328) :
    ∃ a' c' w', (∀ ty, (Builtin.append_ #[69, 69] ty #[v, x]).run Try.prog w = .ok (.slice a' (l1.length + l2.length) c') w') ∧ IsOwn 74 2 base w' (.slice a' (l1.length + l2.length) c') (l1 ++ l2).length (avs (l1 ++ l2)) ∧ Below base w w' := by
  obtain ⟨i0, hi, hz0, hz1, hz2⟩ := info_parts Try.infoAva
  obtain ⟨g, hg, h⟩ := h
  obtain ⟨v', w', g', hrun, hrw, hg', ho⟩ := rw_append (T := 69) (tx := 69) Try.underlying69 hi hz0 hz1 hz2 rfl h (avs_one _) x l2.length (avs l2) (by rw [hz1]; exact src) (by omega) (by omega)
  obtain ⟨a', c', rfl⟩ := hrw.form
  refine ⟨a', c', w', hrun, ⟨g', ?_, by rw [List.length_append, avs_append]; exact hrw⟩, ho.toBelow (by simpa using hg) hbase⟩
  rcases hg' with rfl | rfl
  · exact hg
  · exact hbase
theorem src_avs {w : World} {x : Value} {r : List Mt.Av} (h : IsAvs w x r) : Src Try.prog 2 69 x r.length (avs r) w := by
  obtain ⟨a, cap, rfl, hn, hle, hc⟩ := h
  rcases hc with rfl | ⟨b, off, rfl, hlt, hcell⟩
  · cases a with
    | none => exact Src.ofNil w Try.underlying69 cap
    | some ad => exact Src.ofSlice w Try.underlying69 ad 0 cap [] rfl (fun j u hu => by simp at hu) (by simp)
  · exact Src.ofSlice w Try.underlying69 ⟨b, off, none⟩ r.length cap _ (by rw [avs_length]) (fun j u hu => by
      rw [add_off]
      exact avs_cell hcell j u hu) (avs_one _)

set_option maxRecDepth 100000 in
set_option maxHeartbeats 2000000 in
theorem rtwin9_any {w : World} {v : Value} {d : List (List Mt.Av)} (hv : IsDn w v d) (hf : Mt.FitD d) :
    Calls Try.prog 17 #[v] w fun e w' => ∃ x, e = .returned x ∧ IsDn w' x d ∧ Below w.heap.size w w' := by
  have HV := Lib.hid hv
  obtain ⟨a, cap, rfl, hn, _⟩ := hv
  have HX := Lib.hid (HV.out.row)
  have HF := Lib.hid hf
  clear hf
  go_enter Try.func17, Try.ntmps17
  go_wp2_with fail
  go_loopw [3, 8] (fun v i wr => ∃ (j : Nat) (a2 : Option Addr) (c2 : Nat), i = .int .i64 j ∧ v = .slice a2 j c2 ∧ j ≤ d.length ∧ Hid (∃ g xs, w.heap.size ≤ g ∧ IsRw 69 1 wr g (.slice a2 j c2) j xs ∧ AreRdns wr (fun b => w.heap.size ≤ b ∧ b ≠ g) xs (d.take j)) ∧ Hid (Below w.heap.size w wr))
    (fun _ i _ => d.length - (intOf i).toNat)
  case atStart => exact ⟨0, none, 0, rfl, rfl, Nat.zero_le _, Lib.hid ⟨w.heap.size, [], Nat.le_refl _, IsRw.nil _ _ _ _, rfl, fun i hi => by simp at hi⟩, Lib.hid (Below.refl _ _)⟩
  case round =>
    obtain ⟨j, a2, c2, rfl, rfl, hj, HO, HB⟩ := hrel
    by_cases hlt : j < d.length
    · obtain ⟨b, off, rfl, x, hx, hload⟩ := HX.out j hlt
      have hl0 := hload wr HB.out
      have HFR := Lib.hid (HF.out.2 _ (List.getElem_mem hlt)).1
      have HTK := Lib.hid (List.take_succ_eq_append_getElem hlt)
      obtain ⟨r, hr⟩ : ∃ r, d[j] = r := ⟨_, rfl⟩
      rw [hr] at hx HFR HTK
      have hxr := hx.below HB.out
      obtain ⟨xa, xc, rfl, hrn, _⟩ := hx
      have hba := (Below.refl wr.heap.size wr).alloc (Nat.le_refl _) (.cells #[] 74)
      have hown0 : IsOwn 74 2 wr.heap.size (wr.alloc (.cells #[] 74)) (.slice (some ⟨wr.heap.size, 0, none⟩) 0 0) ([] : List Mt.Av).length (avs []) :=
        ⟨wr.heap.size, Nat.le_refl _, by simp [avs], .inr ⟨0, 0, #[], rfl, heap_alloc_new _ _, Nat.le_refl _, by simp, fun j hj => by simp [avs] at hj⟩⟩
      obtain ⟨a4, c4, w4, hrun1, hown4, hb4⟩ := own_catB hown0 (by simp) _ r (src_avs (hxr.below hba)) (by have := HFR.out; simp; omega)
      simp only [List.nil_append, List.length_nil, Nat.zero_add] at hown4 hrun1
      have hb4' := hba.trans hb4
      obtain ⟨g, xs, hg, hrw, hds⟩ := HO.out
      have hjt : j = (d.take j).length := by simp; omega
      obtain ⟨a6, c6, w6, g6, xs6, hrun2, hrw6, hds6, hg6, hb6⟩ := dn_step hrw hds hjt hg HB.out.size (hown4.rdnB hrn) hb4' (by have := HF.out.1; omega)
      have HO6 := Lib.hid (And.intro hg6 (And.intro hrw6 hds6))
      have HB6 := Lib.hid ((HB.out.trans (hb4'.mono HB.out.size)).trans hb6)
      clear hrw hds hrw6 hds6 hb6 hg6 hg hown4 hown0 hb4 hb4' hba hxr hload hjt
      go_wp2_with (first | (refine wpList_append_run rfl (.tmp 13) (.tmp 14) 69 69 rfl (.slice (some ⟨wr.heap.size, 0, none⟩) 0 0) (.slice xa r.length xc) rfl rfl hrun1 ?_; clear hrun1) | (refine wpList_append_run rfl (.tmp 12) (.tmp 16) 43 43 rfl (.slice a2 j c2) (.slice (some ⟨w4.heap.size, 0, none⟩) 1 1) rfl rfl hrun2 ?_; clear hrun2))
      go_roundw
      case rel => exact ⟨j + 1, a6, c6, by go_num, rfl, by omega, by rw [HTK.out]; exact Lib.hid ⟨g6, xs6, HO6.out⟩, HB6⟩
      case measure => simp [intOf]; omega
    · have hjd : j = d.length := by omega
      subst hjd
      have HD : Hid (d.take d.length = d) := Lib.hid (List.take_length)
      go_wp2_with fail
      go_ret
      obtain ⟨g, xs, hg, hrw, hds⟩ := HO.out
      rw [HD.out] at hds
      exact ⟨_, rfl, IsRw.dn hrw hds hn, HB.out⟩
end Go.Proofs.Ythpedokhalndjab
