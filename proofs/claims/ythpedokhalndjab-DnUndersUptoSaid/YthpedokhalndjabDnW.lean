/-
  Names that came in, with the sizes of their parts; what the document's Twin comes to.
-/
import Derived.Test.YthpedokhalndjabDnRh
import Derived.Test.YthpedokhalndjabDnQ
namespace Go.Proofs.Ythpedokhalndjab
open Go.RowKit Go.Deep

/-- A name whose parts fit into memory. -/
def Mt.FitD (d : List (List Mt.Av)) : Prop := d.length * 24 ≤ 140737488351232 ∧ ∀ r ∈ d, r.length * 32 ≤ 140737488351232 ∧ ∀ a ∈ r, a.1.length ≤ 140737488351232 ∧ a.2.length ≤ 140737488351232
theorem bytesRdn' : Try.prog.bytesOf 69 = 24 := by kernel_rfl
theorem bytesAva' : Try.prog.bytesOf 74 = 32 := by kernel_rfl
theorem weightsAll_mem9 {H : Type} {P : Program} {e : TypeId} : ∀ {l : List (DataW H)} {d : DataW H} {n : Nat}, d ∈ l → n ∈ d.weights P e → n ∈ DataW.weightsAll P e l
  | _ :: l, d, n, h, hn => by
    simp only [DataW.weightsAll, List.mem_append]
    rcases List.mem_cons.1 h with rfl | h
    · exact .inl hn
    · exact .inr (weightsAll_mem9 h hn)

set_option maxRecDepth 100000 in
/-- An RDN that came in. -/
theorem open_rdnW {H : Type} {enc : TypeId × Value → H} {W : World} {fu : Nat} {cs : List Value} {x : DataW H × List MemPlace} (hf : DataW.trod enc Try.prog W 0 (fun _ => true) true fu 69 cs = some x) (h1 : cs.length = 1)
    (hw : ∀ k ∈ x.1.weights Try.prog 69, k ≤ reachBytes) :
    ∃ v r, cs = [v] ∧ IsAvs W v r ∧ r.length * 32 ≤ 140737488351232 ∧ ∀ a ∈ r, a.1.length ≤ 140737488351232 ∧ a.2.length ≤ 140737488351232 := by
  rcases DataW.trod_slice Try.underlying69 hf with ⟨hcs, _⟩ | ⟨y, l, cp, elems, rest, n, hmn, hcs, hy2, _, hl, hm, hlen, hel, _, _⟩
  · exact ⟨_, [], hcs, ⟨none, 0, rfl, by simp, by simp, .inl rfl⟩, by simp, by simp⟩
  · refine ⟨.slice (some y) l cp, ?_⟩
    rw [cellsAva] at hel
    have hl32 : l * 32 ≤ 140737488351232 := by
      have := hw ((elems.length + rest.length) * 32) (by rw [hy2]; simp [DataW.weights, Try.underlying69, bytesAva'])
      simp only [reachBytes] at this
      omega
    have hex : ∀ i : Nat, ∃ a : Mt.Av, i < l → (W.cell? (y.add (i * 2)) = some (.string (Mt.str a.1)) ∧ W.cell? ((y.add (i * 2)).add 1) = some (.string (Mt.str a.2))) ∧ a.1.length ≤ 140737488351232 ∧ a.2.length ≤ 140737488351232 := by
      intro i
      by_cases hin : i < l
      · have h := hel i hin
        rw [List.getElem?_eq_getElem (by omega)] at h
        obtain ⟨cs', hc, ht⟩ := Option.bind_eq_some_iff.1 h
        obtain ⟨_, hcl, hat⟩ := World.cells?_some hc
        have hmem : elems[i].1 ∈ elems.map (·.1) := List.mem_map.2 ⟨elems[i], List.getElem_mem _, rfl⟩
        have hwe : ∀ k ∈ elems[i].1.weights Try.prog 74, k ≤ reachBytes := fun k hk => hw k (by
          rw [hy2]; simp only [DataW.weights, Try.underlying69, List.mem_cons, List.mem_append]
          exact .inr (.inl (weightsAll_mem9 hmem hk)))
        obtain ⟨xs, m2, _, hxx, _, hxl, hg⟩ := DataW.trod_struct Try.underlying74 ht
        obtain ⟨c0, c1, rfl⟩ : ∃ c0 c1, cs' = [c0, c1] := by
          match cs', hcl with
          | [c0, c1], _ => exact ⟨c0, c1, rfl⟩
        obtain ⟨y0, y1, rfl⟩ : ∃ y0 y1, xs = [y0, y1] := by
          match xs, hxl with
          | [y0, y1], _ => exact ⟨y0, y1, rfl⟩
        · skip
          obtain ⟨S, e0, hy0, _⟩ := DataW.trod_string Try.underlying9 (x := y0) (by simpa [cellsStr9, Value.cells] using hg 0 _ rfl)
          obtain ⟨T, e1, hy1, _⟩ := DataW.trod_string Try.underlying9 (x := y1) (by simpa [cellsStr9, Value.cells] using hg 1 _ rfl)
          simp only [List.cons.injEq, and_true] at e0 e1
          subst e0 e1
          have hx1 : elems[i].1 = .agg [y0.1, y1.1] := by rw [hxx]; rfl
          have hs0 : S.data.toList.length ≤ reachBytes := hwe _ (by
            rw [hx1]; simp only [DataW.weights, Try.underlying74, List.map_cons, List.map_nil, DataW.weightsEach, List.mem_append]
            exact .inl (by rw [hy0]; simp [DataW.weights]))
          have hs1 : T.data.toList.length ≤ reachBytes := hwe _ (by
            rw [hx1]; simp only [DataW.weights, Try.underlying74, List.map_cons, List.map_nil, DataW.weightsEach, List.mem_append]
            exact .inr (.inl (by rw [hy1]; simp [DataW.weights])))
          refine ⟨(S.data.toList, T.data.toList), fun _ => ⟨⟨?_, ?_⟩, hs0, hs1⟩⟩
          · have := hat 0 (by decide); rw [add9_zero] at this; exact this
          · exact hat 1 (by decide)
      · exact ⟨([], []), fun h => absurd h hin⟩
    obtain ⟨f, hfm⟩ := Classical.axiomOfChoice hex
    refine ⟨(List.range l).map f, by simpa [Value.cells] using hcs, ⟨some y, cp, by simp, by simp; unfold maxLen at hm; omega, by simp; omega, ?_⟩, by simpa using hl32, fun a ha => ?_⟩
    · rcases Nat.eq_zero_or_pos l with h0 | h0
      · subst h0; exact .inl rfl
      · have hv := (hfm 0 h0).1.1
        rw [Nat.zero_mul, add9_zero] at hv
        obtain ⟨b, off, rfl⟩ := addr9_none hv
        refine .inr ⟨b, off, rfl, World.block_lt_of_cell? W _ hv, fun j hj => ?_⟩
        have hin : j < l := by simpa using hj
        have h2 := (hfm j hin).1
        rw [add_off, add_off] at h2
        simpa using h2
    · obtain ⟨i, hi, rfl⟩ := List.mem_map.1 ha
      exact (hfm i (List.mem_range.1 hi)).2
set_option maxRecDepth 100000 in
/-- A name that came in. -/
theorem open_dnW {H : Type} {enc : TypeId × Value → H} {W : World} {a : Option Addr} {n c : Nat} {d : DataW H} {p : List MemPlace} {ts : List TypeId} {ds : List (DataW H)} {j : Nat}
    (h : DataW.Trod enc Try.prog W 0 (fun _ => true) true 43 (.slice a n c) d p) (ht : ts[j]? = some 43) (hd : ds[j]? = some d) (hsz : (DataW.weightsEach Try.prog ts ds).all (· ≤ reachBytes) = true) : ∃ D, IsDn W (.slice a n c) D ∧ Mt.FitD D := by
  have hwt : ∀ k ∈ d.weights Try.prog 43, k ≤ reachBytes := fun k hk => by
    have := List.all_eq_true.1 hsz _ (DataW.weights_mem_each ht hd k hk)
    simpa using this
  obtain ⟨fuel, hf⟩ := h
  rcases DataW.trod_slice Try.underlying43 hf with ⟨hcs, _⟩ | ⟨y, l, cp, elems, rest, n2, hmn, hcs, hy2, _, hl, hm, hlen, hel, _, _⟩
  · simp [Value.cells] at hcs
    obtain ⟨rfl, rfl, rfl⟩ := hcs
    exact ⟨[], ⟨none, 0, rfl, by simp, by simp, .inl rfl⟩, by simp [Mt.FitD]⟩
  · simp [Value.cells] at hcs
    obtain ⟨rfl, rfl, rfl⟩ := hcs
    have hy3 := congrArg Prod.fst hy2
    simp only at hy3
    rw [cellsRdn] at hel
    have hl24 : n * 24 ≤ 140737488351232 := by
      have := hwt ((elems.length + rest.length) * 24) (by rw [hy3]; simp [DataW.weights, Try.underlying43, bytesRdn'])
      simp only [reachBytes] at this
      omega
    have hex : ∀ i : Nat, ∃ q : Value × List Mt.Av, i < n → (W.cell? (y.add i) = some q.1 ∧ IsAvs W q.1 q.2) ∧ q.2.length * 32 ≤ 140737488351232 ∧ ∀ a ∈ q.2, a.1.length ≤ 140737488351232 ∧ a.2.length ≤ 140737488351232 := by
      intro i
      by_cases hin : i < n
      · have h := hel i hin
        rw [List.getElem?_eq_getElem (by omega)] at h
        obtain ⟨cs', hc, ht2⟩ := Option.bind_eq_some_iff.1 h
        rw [Nat.mul_one] at hc
        obtain ⟨_, hcl, hat⟩ := World.cells?_some hc
        have hmem : elems[i].1 ∈ elems.map (·.1) := List.mem_map.2 ⟨elems[i], List.getElem_mem _, rfl⟩
        obtain ⟨x, r, rfl, hr, hr2⟩ := open_rdnW ht2 (by simpa using hcl) (fun k hk => hwt k (by
          rw [hy3]; simp only [DataW.weights, Try.underlying43, List.mem_cons, List.mem_append]
          exact .inr (.inl (weightsAll_mem9 hmem hk))))
        refine ⟨(x, r), fun _ => ⟨⟨?_, hr⟩, hr2⟩⟩
        have := hat 0 (by decide); rw [add9_zero] at this; exact this
      · exact ⟨(.bool false, []), fun h => absurd h hin⟩
    obtain ⟨f, hfm⟩ := Classical.axiomOfChoice hex
    refine ⟨(List.range n).map fun i => (f i).2, ⟨some y, c, by simp, by simp; unfold maxLen at hm; omega, by simp; omega, ?_⟩, by simpa using hl24, fun r hr => ?_⟩
    · rcases Nat.eq_zero_or_pos n with h0 | h0
      · subst h0; exact .inl rfl
      · have hv := (hfm 0 h0).1.1
        rw [add9_zero] at hv
        obtain ⟨b, off, rfl⟩ := addr9_none hv
        refine .inr ⟨b, off, rfl, World.block_lt_of_cell? W _ hv, fun j hj => ?_⟩
        have hin : j < n := by simpa using hj
        have h2 := (hfm j hin).1
        rw [add_off] at h2
        exact ⟨_, h2.1, by simpa using h2.2⟩
    · obtain ⟨i, hi, rfl⟩ := List.mem_map.1 hr
      exact (hfm i (List.mem_range.1 hi)).2

/-- A part of a slice of types and values, of any size, behind one of the call's own. -/
theorem own_catB {base : Nat} {w : World} {v : Value} {l1 : List Mt.Av} (h : IsOwn 74 2 base w v l1.length (avs l1)) (hbase : base ≤ w.heap.size) (x : Value) (l2 : List Mt.Av) (src : Src Try.prog 2 69 x l2.length (avs l2) w) (hn : (l1.length + l2.length) * 32 ≤ 140737488355328) :
    ∃ a' c' w', (∀ ty, (Builtin.append_ #[69, 69] ty #[v, x]).run Try.prog w = .ok (.slice a' (l1.length + l2.length) c') w') ∧ IsOwn 74 2 base w' (.slice a' (l1.length + l2.length) c') (l1 ++ l2).length (avs (l1 ++ l2)) ∧ Below base w w' := by
  obtain ⟨i0, hi, hz0, hz1, hz2⟩ := info_parts Try.infoAva
  obtain ⟨g, hg, h⟩ := h
  obtain ⟨v', w', g', hrun, hrw, hg', ho⟩ := rw_append (T := 69) (tx := 69) Try.underlying69 hi hz0 hz1 hz2 rfl h (avs_one _) x l2.length (avs l2) (by rw [hz1]; exact src) (by omega) (by omega)
  obtain ⟨a', c', rfl⟩ := hrw.form
  refine ⟨a', c', w', hrun, ⟨g', ?_, by rw [List.length_append, avs_append]; exact hrw⟩, ho.toBelow (by simpa using hg) hbase⟩
  rcases hg' with rfl | rfl
  · exact hg
  · exact hbase
theorem src_avs {w : World} {x : Value} {r : List Mt.Av} (h : IsAvs w x r) : Src Try.prog 2 69 x r.length (avs r) w := by
  obtain ⟨a, cap, rfl, hn, hle, hc⟩ := h
  rcases hc with rfl | ⟨b, off, rfl, hlt, hcell⟩
  · cases a with
    | none => exact Src.ofNil w Try.underlying69 cap
    | some ad => exact Src.ofSlice w Try.underlying69 ad 0 cap [] rfl (fun j u hu => by simp at hu) (by simp)
  · exact Src.ofSlice w Try.underlying69 ⟨b, off, none⟩ r.length cap _ (by rw [avs_length]) (fun j u hu => by
      rw [add_off]
      exact avs_cell hcell j u hu) (avs_one _)

set_option maxRecDepth 100000 in
set_option maxHeartbeats 2000000 in
theorem rtwin9_any {w : World} {v : Value} {d : List (List Mt.Av)} (hv : IsDn w v d) (hf : Mt.FitD d) :
    Calls Try.prog 17 #[v] w fun e w' => ∃ x, e = .returned x ∧ IsDn w' x d ∧ Below w.heap.size w w' := by
  have HV := Lib.hid hv
  obtain ⟨a, cap, rfl, hn, _⟩ := hv
  have HX := Lib.hid (HV.out.row)
  have HF := Lib.hid hf
  clear hf
  go_enter Try.func17, Try.ntmps17
  go_wp2_with fail
  go_loopw [3, 8] (fun v i wr => ∃ (j : Nat) (a2 : Option Addr) (c2 : Nat), i = .int .i64 j ∧ v = .slice a2 j c2 ∧ j ≤ d.length ∧ Hid (∃ g xs, w.heap.size ≤ g ∧ IsRw 69 1 wr g (.slice a2 j c2) j xs ∧ AreRdns wr (fun b => w.heap.size ≤ b ∧ b ≠ g) xs (d.take j)) ∧ Hid (Below w.heap.size w wr))
    (fun _ i _ => d.length - (intOf i).toNat)
  case atStart => exact ⟨0, none, 0, rfl, rfl, Nat.zero_le _, Lib.hid ⟨w.heap.size, [], Nat.le_refl _, IsRw.nil _ _ _ _, rfl, fun i hi => by simp at hi⟩, Lib.hid (Below.refl _ _)⟩
  case round =>
    obtain ⟨j, a2, c2, rfl, rfl, hj, HO, HB⟩ := hrel
    by_cases hlt : j < d.length
    · obtain ⟨b, off, rfl, x, hx, hload⟩ := HX.out j hlt
      have hl0 := hload wr HB.out
      have HFR := Lib.hid (HF.out.2 _ (List.getElem_mem hlt)).1
      have HTK := Lib.hid (List.take_succ_eq_append_getElem hlt)
      obtain ⟨r, hr⟩ : ∃ r, d[j] = r := ⟨_, rfl⟩
      rw [hr] at hx HFR HTK
      have hxr := hx.below HB.out
      obtain ⟨xa, xc, rfl, hrn, _⟩ := hx
      have hba := (Below.refl wr.heap.size wr).alloc (Nat.le_refl _) (.cells #[] 74)
      have hown0 : IsOwn 74 2 wr.heap.size (wr.alloc (.cells #[] 74)) (.slice (some ⟨wr.heap.size, 0, none⟩) 0 0) ([] : List Mt.Av).length (avs []) :=
        ⟨wr.heap.size, Nat.le_refl _, by simp [avs], .inr ⟨0, 0, #[], rfl, heap_alloc_new _ _, Nat.le_refl _, by simp, fun j hj => by simp [avs] at hj⟩⟩
      obtain ⟨a4, c4, w4, hrun1, hown4, hb4⟩ := own_catB hown0 (by simp) _ r (src_avs (hxr.below hba)) (by have := HFR.out; simp; omega)
      simp only [List.nil_append, List.length_nil, Nat.zero_add] at hown4 hrun1
      have hb4' := hba.trans hb4
      obtain ⟨g, xs, hg, hrw, hds⟩ := HO.out
      have hjt : j = (d.take j).length := by simp; omega
      obtain ⟨a6, c6, w6, g6, xs6, hrun2, hrw6, hds6, hg6, hb6⟩ := dn_step hrw hds hjt hg HB.out.size (hown4.rdnB hrn) hb4' (by have := HF.out.1; omega)
      have HO6 := Lib.hid (And.intro hg6 (And.intro hrw6 hds6))
      have HB6 := Lib.hid ((HB.out.trans (hb4'.mono HB.out.size)).trans hb6)
      clear hrw hds hrw6 hds6 hb6 hg6 hg hown4 hown0 hb4 hb4' hba hxr hload hjt
      go_wp2_with (first | (refine wpList_append_run rfl (.tmp 13) (.tmp 14) 69 69 rfl (.slice (some ⟨wr.heap.size, 0, none⟩) 0 0) (.slice xa r.length xc) rfl rfl hrun1 ?_; clear hrun1) | (refine wpList_append_run rfl (.tmp 12) (.tmp 16) 43 43 rfl (.slice a2 j c2) (.slice (some ⟨w4.heap.size, 0, none⟩) 1 1) rfl rfl hrun2 ?_; clear hrun2))
      go_roundw
      case rel => exact ⟨j + 1, a6, c6, by go_num, rfl, by omega, by rw [HTK.out]; exact Lib.hid ⟨g6, xs6, HO6.out⟩, HB6⟩
      case measure => simp [intOf]; omega
    · have hjd : j = d.length := by omega
      subst hjd
      have HD : Hid (d.take d.length = d) := Lib.hid (List.take_length)
      go_wp2_with fail
      go_ret
      obtain ⟨g, xs, hg, hrw, hds⟩ := HO.out
      rw [HD.out] at hds
      exact ⟨_, rfl, IsRw.dn hrw hds hn, HB.out⟩
end Go.Proofs.Ythpedokhalndjab

/-
  Whether a name lies under another one: plain lists, the program's Under, the document's.
-/
namespace Go.Proofs.Ythpedokhalndjab
open Go.RowKit
namespace Mt

theorem inter_drop (ls : List (List UInt8)) (k : Nat) : ([44].intercalate (ls.drop k)).length ≤ ([44].intercalate ls).length := by
  rw [inter_sum [44] rfl, inter_sum [44] rfl]
  have h1 : (ls.map List.length).sum = ((ls.take k).map List.length).sum + ((ls.drop k).map List.length).sum := by
    rw [← List.sum_append, ← List.map_append, List.take_append_drop]
  rw [List.length_drop]
  omega
def okD (d : List (List Av)) : Bool := match printD d with
  | .ok _ => true
  | .error _ => false
theorem print_drop {d : List (List Av)} {t : List UInt8} (h : printD d = .ok t) (k : Nat) : ∃ t', printD (d.drop k) = .ok t' := by
  obtain ⟨h32, hv, ht, hl⟩ := printD_good h
  refine ⟨_, printD_of (by rw [List.length_drop]; omega) (fun r hr => hv r (List.mem_of_mem_drop hr)) ?_ ?_⟩
  · have := inter_drop (d.map fun r => [43].intercalate (speltL r)) k
    rw [← List.map_drop] at this
    have h2 : (textL speltL d).length ≤ 4096 := by rw [← ht]; exact hl
    unfold textL at h2 ⊢
    omega
  · have := print_long h
    rw [List.any_eq_false] at this ⊢
    exact fun r hr => this r (List.mem_of_mem_drop hr)
theorem under_drop (d : List (List Av)) (k : Nat) (hk : k ≤ d.length) : underD d (d.drop k) = okD d := by
  unfold underD okD
  cases hp : printD d with
  | error e => rfl
  | ok t =>
    obtain ⟨t', ht'⟩ := print_drop hp k
    have hkey : keyD (d.drop k) = .ok (textL normL (d.drop k)) := by unfold keyD; rw [ht']
    rw [hkey]
    simp only [List.length_drop]
    rw [show d.length - (d.length - k) = k by omega]
    simp
theorem under_join (d base : List (List Av)) : underD (d ++ base) base = okD (d ++ base) := by
  have := under_drop (d ++ base) d.length (by simp)
  rw [List.drop_left] at this
  exact this
end Mt

theorem IsDn.drop {w : World} {a : Option Addr} {cap k : Nat} {d : List (List Mt.Av)} (h : IsDn w (.slice a d.length cap) d) (hk : k ≤ d.length) :
    IsDn w (.slice (a.map fun x => x.add k) (d.length - k) (cap - k)) (d.drop k) ∧ (cap = k → IsDn w (.slice a (d.length - k) (cap - k)) (d.drop k)) := by
  obtain ⟨a1, cap1, h1, h2, h3, h4⟩ := h
  cases h1
  refine ⟨⟨_, _, by rw [List.length_drop], by rw [List.length_drop]; omega, by rw [List.length_drop]; omega, ?_⟩, fun he => ⟨_, _, by rw [List.length_drop], by rw [List.length_drop]; omega, by rw [List.length_drop]; omega, .inl ?_⟩⟩
  · rcases h4 with rfl | ⟨b, off, rfl, h5, h6⟩
    · exact .inl (by simp)
    · refine .inr ⟨b, off + k, ?_, h5, fun i hi => ?_⟩
      · simp only [Option.map_some]; rw [add_off]
      · have hi2 : k + i < d.length := by rw [List.length_drop] at hi; omega
        obtain ⟨x, hx, hr⟩ := h6 (k + i) hi2
        rw [Nat.add_assoc]
        exact ⟨x, hx, by rw [List.getElem_drop]; exact hr⟩
  · exact List.drop_eq_nil_iff.2 (by omega)
theorem IsDn.len {w : World} {a : Option Addr} {n cap : Nat} {d : List (List Mt.Av)} (h : IsDn w (.slice a n cap) d) : n = d.length ∧ n ≤ cap ∧ n ≤ 9223372036854775807 := by
  obtain ⟨a1, cap1, h1, h2, h3, h4⟩ := h
  cases h1
  exact ⟨rfl, h3, h2⟩

set_option maxRecDepth 100000 in
set_option maxHeartbeats 1000000 in
theorem under_any {w : World} {va vb : Value} {d base : List (List Mt.Av)} (hd : IsDn w va d) (hb : IsDn w vb base) :
    Calls Try.prog 26 #[va, vb] w fun e w' => e = .returned (.bool (Mt.underD d base)) ∧ Below w.heap.size w w' := by
  have HP := Lib.hid (print_any hd)
  have HN := Lib.hid (fun (u : World) (hu : Below w.heap.size w u) => norm_any (hb.below hu))
  have HD := Lib.hid hd
  have HBS := Lib.hid hb
  obtain ⟨a, cap, rfl, hn, hcap, _⟩ := hd
  obtain ⟨a2, cap2, rfl, hn2, hcap2, _⟩ := hb
  unfold Mt.underD
  cases hp : Mt.printD d with
  | error e =>
    rw [hp] at HP
    have hei : ((e : Int) != 0) = true := by have := Mt.print_err hp; simp; omega
    unfold textV at HP
    clear hp
    go_enter Try.func26, Try.ntmps26
    go_wp2_with fail
    refine (HP.out).mono ?_
    rintro x w2 ⟨rfl, hb⟩
    have HB := Lib.hid hb
    clear hb
    go_wp2_with fail
    go_ret
    exact ⟨rfl, HB.out⟩
  | ok t =>
    rw [hp] at HP
    have hg := Mt.ask_good (Mt.print_good hp).1
    unfold textV at HP
    cases hk : Mt.keyD base with
    | error e =>
      rw [hk] at HN
      have hei : ((e : Int) != 0) = true := by have := Mt.key_err hk; simp; omega
      unfold textV at HN
      clear hp hk
      go_enter Try.func26, Try.ntmps26
      go_wp2_with fail
      refine (HP.out).mono ?_
      rintro x w2 ⟨rfl, hb⟩
      have HN2 := Lib.hid (HN.out _ hb)
      have HB := Lib.hid hb
      clear hb
      go_wp2_with fail
      refine (HN2.out).mono ?_
      rintro x w3 ⟨rfl, hb⟩
      have HB3 := Lib.hid (HB.out.trans (hb.mono HB.out.size))
      clear hb
      go_wp2_with fail
      go_ret
      exact ⟨rfl, HB3.out⟩
    | ok kt =>
      rw [hk] at HN
      unfold textV at HN
      clear hp hk
      by_cases hle : base.length ≤ d.length
      · obtain ⟨K, hK⟩ : ∃ K, d.length - base.length = K := ⟨_, rfl⟩
        have hKi : (d.length : Int) - (base.length : Int) = (K : Int) := by omega
        have hKd : K ≤ d.length := by omega
        have HDR := Lib.hid (HD.out.drop hKd)
        have hgd : Mt.GoodD (d.drop K) := ⟨by rw [List.length_drop]; have := hg.1; omega, fun r hr => hg.2 r (List.mem_of_mem_drop hr)⟩
        have HW := Lib.hid (fun (u : World) (hu : Below w.heap.size w u) => write_normal_any (HDR.out.1.below hu) hgd)
        have HW2 := Lib.hid (fun (he : cap = K) (u : World) (hu : Below w.heap.size w u) => write_normal_any ((HDR.out.2 he).below hu) hgd)
        obtain ⟨T, hT⟩ : ∃ T, Mt.textL Mt.normL (d.drop K) = T := ⟨_, rfl⟩
        rw [hK, hT]
        simp only [hT] at HW HW2
        obtain ⟨z, hz⟩ : ∃ z, ((Mt.str T).toList == (Mt.str kt).toList) = z := ⟨_, rfl⟩
        have hz2 : (decide (base.length ≤ d.length) && decide (T = kt)) = z := by
          rw [decide_eq_true hle, Bool.true_and, ← hz, Bool.eq_iff_iff]
          simp only [decide_eq_true_eq, beq_iff_eq, ByteArray.toList_eq]
          constructor
          · rintro rfl; rfl
          · intro h; simpa [Mt.str] using h
        simp only [hz2]
        have hlt : decide ((d.length : Int) < (base.length : Int)) = false := decide_eq_false (by omega)
        clear hg hgd hz2 hK hT
        by_cases hck : cap = K
        · subst hck
          replace HW := Lib.hid (HW2.out rfl)
          rw [Nat.sub_self, show d.length - cap = 0 by omega] at HW
          clear HW2 HDR
          go_enter Try.func26, Try.ntmps26
          go_wp2_with fail
          refine (HP.out).mono ?_
          rintro x w2 ⟨rfl, hb⟩
          have HN2 := Lib.hid (HN.out _ hb)
          have HB := Lib.hid hb
          clear hb
          go_wp2_with fail
          refine (HN2.out).mono ?_
          rintro x w3 ⟨rfl, hb⟩
          have HB3 := Lib.hid (HB.out.trans (hb.mono HB.out.size))
          have HW3 := Lib.hid (HW.out _ HB3.out)
          clear hb
          go_wp2_with fail
          refine (HW3.out).mono ?_
          rintro x w4 ⟨rfl, hb⟩
          have HB4 := Lib.hid (HB3.out.trans (hb.mono HB3.out.size))
          clear hb
          go_wp2_with fail
          go_ret
          exact ⟨rfl, HB4.out⟩
        · clear HW2 HDR
          go_enter Try.func26, Try.ntmps26
          go_wp2_with fail
          refine (HP.out).mono ?_
          rintro x w2 ⟨rfl, hb⟩
          have HN2 := Lib.hid (HN.out _ hb)
          have HB := Lib.hid hb
          clear hb
          go_wp2_with fail
          refine (HN2.out).mono ?_
          rintro x w3 ⟨rfl, hb⟩
          have HB3 := Lib.hid (HB.out.trans (hb.mono HB.out.size))
          have HW3 := Lib.hid (HW.out _ HB3.out)
          clear hb
          go_wp2_with fail
          refine (HW3.out).mono ?_
          rintro x w4 ⟨rfl, hb⟩
          have HB4 := Lib.hid (HB3.out.trans (hb.mono HB3.out.size))
          clear hb
          go_wp2_with fail
          go_ret
          exact ⟨rfl, HB4.out⟩
      · have hlt : decide ((d.length : Int) < (base.length : Int)) = true := decide_eq_true (by omega)
        simp only [decide_eq_false hle, Bool.false_and]
        go_enter Try.func26, Try.ntmps26
        go_wp2_with fail
        refine (HP.out).mono ?_
        rintro x w2 ⟨rfl, hb⟩
        have HN2 := Lib.hid (HN.out _ hb)
        have HB := Lib.hid hb
        clear hb
        go_wp2_with fail
        refine (HN2.out).mono ?_
        rintro x w3 ⟨rfl, hb⟩
        have HB3 := Lib.hid (HB.out.trans (hb.mono HB.out.size))
        clear hb
        go_wp2_with fail
        go_ret
        exact ⟨rfl, HB3.out⟩
set_option maxRecDepth 100000 in
set_option maxHeartbeats 1000000 in
theorem runder_any {w : World} {va vb : Value} {d base : List (List Mt.Av)} (hd : IsDn w va d) (hb : IsDn w vb base) (hs : ∀ r ∈ d, ∀ a ∈ r, a.1.length ≤ 140737488351232) (hs2 : ∀ r ∈ base, ∀ a ∈ r, a.1.length ≤ 140737488351232) :
    Calls Try.prog 27 #[va, vb] w fun e w' => e = .returned (.bool (Mt.underD d base)) ∧ Below w.heap.size w w' := by
  have HP := Lib.hid (rprint_any hd hs)
  have HN := Lib.hid (fun (u : World) (hu : Below w.heap.size w u) => rnorm_of rplain_any (hb.below hu) hs2)
  have HD := Lib.hid hd
  have HBS := Lib.hid hb
  obtain ⟨a, cap, rfl, hn, hcap, _⟩ := hd
  obtain ⟨a2, cap2, rfl, hn2, hcap2, _⟩ := hb
  obtain ⟨r2, t2, hrt2⟩ : ∃ r t, textV (Mt.keyD base) = .tuple #[.string r, .int .i64 t] := by
    cases Mt.keyD base <;> exact ⟨_, _, rfl⟩
  clear hs hs2
  unfold Mt.underD
  cases hp : Mt.printD d with
  | error e =>
    rw [hp] at HP
    have hei : ((e : Int) != 0) = true := by have := Mt.print_err hp; simp; omega
    unfold textV at HP
    simp only [hrt2] at HN
    clear hp hrt2
    go_enter Try.func27, Try.ntmps27
    go_wp2_with fail
    refine (HP.out).mono ?_
    rintro x w2 ⟨rfl, hb⟩
    have HN2 := Lib.hid (HN.out _ hb)
    have HB := Lib.hid hb
    clear hb
    go_wp2_with fail
    refine (HN2.out).mono ?_
    rintro x w3 ⟨rfl, hb⟩
    have HB3 := Lib.hid (HB.out.trans (hb.mono HB.out.size))
    clear hb
    go_wp2_with fail
    go_ret
    exact ⟨rfl, HB3.out⟩
  | ok t =>
    rw [hp] at HP
    have hg := Mt.ask_good (Mt.print_good hp).1
    unfold textV at HP
    cases hk : Mt.keyD base with
    | error e =>
      rw [hk] at HN
      have hei : ((e : Int) != 0) = true := by have := Mt.key_err hk; simp; omega
      unfold textV at HN
      clear hp hk
      go_enter Try.func27, Try.ntmps27
      go_wp2_with fail
      refine (HP.out).mono ?_
      rintro x w2 ⟨rfl, hb⟩
      have HN2 := Lib.hid (HN.out _ hb)
      have HB := Lib.hid hb
      clear hb
      go_wp2_with fail
      refine (HN2.out).mono ?_
      rintro x w3 ⟨rfl, hb⟩
      have HB3 := Lib.hid (HB.out.trans (hb.mono HB.out.size))
      clear hb
      go_wp2_with fail
      go_ret
      exact ⟨rfl, HB3.out⟩
    | ok kt =>
      rw [hk] at HN
      unfold textV at HN
      clear hp hk
      by_cases hle : base.length ≤ d.length
      · obtain ⟨K, hK⟩ : ∃ K, d.length - base.length = K := ⟨_, rfl⟩
        have hKi : (d.length : Int) - (base.length : Int) = (K : Int) := by omega
        have hKd : K ≤ d.length := by omega
        have HDR := Lib.hid (HD.out.drop hKd)
        have hgd : Mt.GoodD (d.drop K) := ⟨by rw [List.length_drop]; have := hg.1; omega, fun r hr => hg.2 r (List.mem_of_mem_drop hr)⟩
        have HW := Lib.hid (fun (u : World) (hu : Below w.heap.size w u) => rplain_any u _ _ (HDR.out.1.below hu) hgd)
        have HW2 := Lib.hid (fun (he : cap = K) (u : World) (hu : Below w.heap.size w u) => rplain_any u _ _ ((HDR.out.2 he).below hu) hgd)
        obtain ⟨T, hT⟩ : ∃ T, Mt.textL Mt.normL (d.drop K) = T := ⟨_, rfl⟩
        rw [hK, hT]
        have HTT := Lib.hid hT
        obtain ⟨z, hz⟩ : ∃ z, ((Mt.str T).toList == (Mt.str kt).toList) = z := ⟨_, rfl⟩
        have hz2 : (decide (base.length ≤ d.length) && decide (T = kt)) = z := by
          rw [decide_eq_true hle, Bool.true_and, ← hz, Bool.eq_iff_iff]
          simp only [decide_eq_true_eq, beq_iff_eq, ByteArray.toList_eq]
          constructor
          · rintro rfl; rfl
          · intro h; simpa [Mt.str] using h
        simp only [hz2]
        have hlt : decide ((d.length : Int) < (base.length : Int)) = false := decide_eq_false (by omega)
        clear hg hgd hz2 hK hT
        by_cases hck : cap = K
        · subst hck
          replace HW := Lib.hid (HW2.out rfl)
          rw [Nat.sub_self, show d.length - cap = 0 by omega] at HW
          clear HW2 HDR
          go_enter Try.func27, Try.ntmps27
          go_wp2_with fail
          refine (HP.out).mono ?_
          rintro x w2 ⟨rfl, hb⟩
          have HN2 := Lib.hid (HN.out _ hb)
          have HB := Lib.hid hb
          clear hb
          go_wp2_with fail
          refine (HN2.out).mono ?_
          rintro x w3 ⟨rfl, hb⟩
          have HB3 := Lib.hid (HB.out.trans (hb.mono HB.out.size))
          have HW3 := Lib.hid (HW.out _ HB3.out)
          clear hb
          go_wp2_with fail
          refine (HW3.out).mono ?_
          rintro x w4 ⟨y, D, rfl, hdn, hte, hgd2, hb⟩
          have HT2 := Lib.hid (rtext_any hdn hgd2)
          rw [Mt.text_of hte, HTT.out] at HT2
          obtain ⟨xa, xc, rfl, _⟩ := hdn
          have HB4 := Lib.hid (HB3.out.trans (hb.mono HB3.out.size))
          clear hb hte hgd2
          go_wp2_with fail
          refine (HT2.out).mono ?_
          rintro x w5 ⟨rfl, hb⟩
          have HB5 := Lib.hid (HB4.out.trans (hb.mono HB4.out.size))
          clear hb
          go_wp2_with fail
          go_ret
          exact ⟨rfl, HB5.out⟩
        · clear HW2 HDR
          go_enter Try.func27, Try.ntmps27
          go_wp2_with fail
          refine (HP.out).mono ?_
          rintro x w2 ⟨rfl, hb⟩
          have HN2 := Lib.hid (HN.out _ hb)
          have HB := Lib.hid hb
          clear hb
          go_wp2_with fail
          refine (HN2.out).mono ?_
          rintro x w3 ⟨rfl, hb⟩
          have HB3 := Lib.hid (HB.out.trans (hb.mono HB.out.size))
          have HW3 := Lib.hid (HW.out _ HB3.out)
          clear hb
          go_wp2_with fail
          refine (HW3.out).mono ?_
          rintro x w4 ⟨y, D, rfl, hdn, hte, hgd2, hb⟩
          have HT2 := Lib.hid (rtext_any hdn hgd2)
          rw [Mt.text_of hte, HTT.out] at HT2
          obtain ⟨xa, xc, rfl, _⟩ := hdn
          have HB4 := Lib.hid (HB3.out.trans (hb.mono HB3.out.size))
          clear hb hte hgd2
          go_wp2_with fail
          refine (HT2.out).mono ?_
          rintro x w5 ⟨rfl, hb⟩
          have HB5 := Lib.hid (HB4.out.trans (hb.mono HB4.out.size))
          clear hb
          go_wp2_with fail
          go_ret
          exact ⟨rfl, HB5.out⟩
      · have hlt : decide ((d.length : Int) < (base.length : Int)) = true := decide_eq_true (by omega)
        simp only [decide_eq_false hle, Bool.false_and]
        go_enter Try.func27, Try.ntmps27
        go_wp2_with fail
        refine (HP.out).mono ?_
        rintro x w2 ⟨rfl, hb⟩
        have HN2 := Lib.hid (HN.out _ hb)
        have HB := Lib.hid hb
        clear hb
        go_wp2_with fail
        refine (HN2.out).mono ?_
        rintro x w3 ⟨rfl, hb⟩
        have HB3 := Lib.hid (HB.out.trans (hb.mono HB.out.size))
        clear hb
        go_wp2_with fail
        go_ret
        exact ⟨rfl, HB3.out⟩
end Go.Proofs.Ythpedokhalndjab

/-
  What slices.Clone of an RDN, and dn.Join, come to.
-/
namespace Go.Proofs.Ythpedokhalndjab
open Go.RowKit

set_option maxRecDepth 100000 in
theorem cloneR_any {w : World} {v : Value} {r : List Mt.Av} (hv : IsAvs w v r) (hn : r.length * 32 ≤ 140737488351232) :
    Calls Try.prog 47 #[v] w fun e w' => ∃ x, e = .returned x ∧ IsRdnB w' (fun b => w.heap.size ≤ b) x r ∧ Below w.heap.size w w' := by
  have HV := Lib.hid hv
  obtain ⟨a, cap, rfl, hrn, hrc, hc⟩ := hv
  cases a with
  | none =>
    have hr : r = [] := by
      rcases hc with h | ⟨b, off, h, _⟩
      · exact h
      · cases h
    subst hr
    have he : ∀ u : World, (binOp .eql 69 (.slice none 0 cap) (.slice none 0 0)).run Try.prog u = .ok (.bool true) u := fun _ => rfl
    have HO := Lib.hid (IsOwn.rdnB (r := []) (IsOwn.nil 74 2 w.heap.size w) (by simp))
    go_enter Try.func47, Try.ntmps47
    go_wp2_with fail
    go_ret
    exact ⟨_, rfl, HO.out, Below.refl _ _⟩
  | some ad =>
    have hba := (Below.refl w.heap.size w).alloc (Nat.le_refl _) (.cells #[] 74)
    have hown0 : IsOwn 74 2 w.heap.size (w.alloc (.cells #[] 74)) (.slice (some ⟨w.heap.size, 0, none⟩) 0 0) ([] : List Mt.Av).length (avs []) :=
      ⟨w.heap.size, Nat.le_refl _, by simp [avs], .inr ⟨0, 0, #[], rfl, heap_alloc_new _ _, Nat.le_refl _, by simp, fun j hj => by simp [avs] at hj⟩⟩
    obtain ⟨a4, c4, w4, hrun1, hown4, hb4⟩ := own_catB hown0 (by simp) _ r (src_avs (HV.out.below hba)) (by simp; omega)
    simp only [List.nil_append, List.length_nil, Nat.zero_add] at hown4 hrun1
    have he : ∀ u : World, (binOp .eql 69 (.slice (some ad) r.length cap) (.slice none 0 0)).run Try.prog u = .ok (.bool false) u := fun _ => rfl
    have HO := Lib.hid (hown4.rdnB hrn)
    have HB := Lib.hid (hba.trans hb4)
    clear hown4 hown0 hb4 hba hc
    go_enter Try.func47, Try.ntmps47
    go_wp2_with (refine wpList_append_run rfl (.tmp 5) (.tmp 6) 69 69 rfl (.slice (some ⟨w.heap.size, 0, none⟩) 0 0) (.slice (some ad) r.length cap) rfl rfl hrun1 ?_; clear hrun1)
    go_ret
    exact ⟨_, rfl, HO.out, HB.out⟩

/-- The parts of which so many have been laid. -/
def jparts (rdns d : List (List Mt.Av)) : Nat → List (List Mt.Av)
  | 0 => []
  | 1 => rdns
  | _ => rdns ++ d

theorem jp_step {w u : World} {B : Nat} {d rdns : List (List Mt.Av)} {ar ad : Option Addr} {cr cd : Nat} (hn : (rdns.length + d.length + 1) * 24 ≤ 140737488355328) (hr0 : IsDn w (.slice ar rdns.length cr) rdns) (hd0 : IsDn w (.slice ad d.length cd) d)
    (hs2 : ∀ r ∈ rdns, r.length * 32 ≤ 140737488351232) (hs : ∀ r ∈ d, r.length * 32 ≤ 140737488351232) (q1 : u.cell? ⟨B, 0, none⟩ = some (.slice ar rdns.length cr)) (q2 : u.cell? ⟨B, 1, none⟩ = some (.slice ad d.length cd)) (k : Nat) (hk : k < 2) :
    ∃ (p : List (List Mt.Av)) (ap : Option Addr) (cp : Nat), u.cell? ⟨B, k, none⟩ = some (.slice ap p.length cp) ∧ IsDn w (.slice ap p.length cp) p ∧ (∀ r ∈ p, r.length * 32 ≤ 140737488351232) ∧ jparts rdns d (k + 1) = jparts rdns d k ++ p ∧ ((jparts rdns d k).length + p.length + 1) * 24 ≤ 140737488355328 := by
  rcases Nat.lt_or_ge k 1 with h | h
  · have h0 : k = 0 := by omega
    subst h0
    refine ⟨rdns, ar, cr, q1, hr0, hs2, rfl, ?_⟩
    have e : (jparts rdns d 0).length + rdns.length + 1 ≤ rdns.length + d.length + 1 := by
      have e0 : (jparts rdns d 0).length = 0 := rfl
      omega
    exact Nat.le_trans (Nat.mul_le_mul_right 24 e) hn
  · have h1 : k = 1 := by omega
    subst h1
    refine ⟨d, ad, cd, q2, hd0, hs, rfl, ?_⟩
    have e : (jparts rdns d 1).length + d.length + 1 ≤ rdns.length + d.length + 1 := by
      have e0 : (jparts rdns d 1).length = rdns.length := rfl
      omega
    exact Nat.le_trans (Nat.mul_le_mul_right 24 e) hn

set_option maxRecDepth 100000 in
set_option maxHeartbeats 2000000 in
theorem join9_any {w : World} {vd vr : Value} {d rdns : List (List Mt.Av)} (hd : IsDn w vd d) (hr : IsDn w vr rdns) (hn : (rdns.length + d.length + 1) * 24 ≤ 140737488355328) (hs : ∀ r ∈ d, r.length * 32 ≤ 140737488351232) (hs2 : ∀ r ∈ rdns, r.length * 32 ≤ 140737488351232) :
    Calls Try.prog 28 #[vd, vr] w fun e w' => ∃ x, e = .returned x ∧ IsDn w' x (rdns ++ d) ∧ Below w.heap.size w w' := by
  have HD := Lib.hid hd
  have HR := Lib.hid hr
  have HS := Lib.hid hs
  have HS2 := Lib.hid hs2
  have HN := Lib.hid hn
  have hd0 := hd
  have hr0 := hr
  obtain ⟨ad, cd, rfl, _⟩ := hd
  obtain ⟨ar, cr, rfl, _⟩ := hr
  obtain ⟨w1, hw1⟩ : ∃ w1, w.alloc (.cells #[.slice ar rdns.length cr, .slice ad d.length cd] 42) = w1 := ⟨_, rfl⟩
  have hba := (Below.refl w.heap.size w).alloc (Nat.le_refl _) (.cells #[.slice ar rdns.length cr, .slice ad d.length cd] 42)
  have hsz1 : w1.heap.size = w.heap.size + 1 := by rw [← hw1]; simp
  obtain ⟨p1, p2⟩ := box2_of (heap_alloc_new w (.cells #[.slice ar rdns.length cr, .slice ad d.length cd] 42))
  rw [hw1] at hba p1 p2
  have HW1 := Lib.hid hw1
  have HBA := Lib.hid hba
  have HZ := Lib.hid hsz1
  have HP := Lib.hid (fun (u : World) (hu : Below w1.heap.size w1 u) => And.intro ((hu.cell (p := ⟨w.heap.size, 0, none⟩) (by show w.heap.size < w1.heap.size; omega)).trans p1) ((hu.cell (p := ⟨w.heap.size, 1, none⟩) (by show w.heap.size < w1.heap.size; omega)).trans p2))
  have HK : Hid (∀ k, k < 2 → ∀ u, Below w1.heap.size w1 u → ∃ (p : List (List Mt.Av)) (ap : Option Addr) (cp : Nat), u.cell? ⟨w.heap.size, k, none⟩ = some (.slice ap p.length cp) ∧ IsDn w (.slice ap p.length cp) p ∧ (∀ r ∈ p, r.length * 32 ≤ 140737488351232) ∧ jparts rdns d (k + 1) = jparts rdns d k ++ p ∧ ((jparts rdns d k).length + p.length + 1) * 24 ≤ 140737488355328) := Lib.hid (fun k hk u hu => by
    have hq := HP.out u hu
    exact jp_step HN.out hr0 hd0 hs2 hs hq.1 hq.2 k hk)
  clear hs hs2 hn hw1 hba hsz1 p1 p2 hd0 hr0 HP HD HR HS HS2
  go_enter Try.func28, Try.ntmps28
  go_upto_region 3 with fail
  rw [HW1.out]

  go_loopw [5, 14] (fun v i wr => ∃ (k : Nat) (D : List (List Mt.Av)) (a2 : Option Addr) (c2 : Nat), i = .int .i64 k ∧ v = .slice a2 D.length c2 ∧ k ≤ 2 ∧ Hid (jparts rdns d k = D) ∧ Hid (∃ g xs, w1.heap.size ≤ g ∧ IsRw 69 1 wr g (.slice a2 D.length c2) D.length xs ∧ AreRdns wr (fun b => w1.heap.size ≤ b ∧ b ≠ g) xs D) ∧ Hid (Below w1.heap.size w1 wr))
    (fun _ i _ => 2 - (intOf i).toNat)
  case atStart => exact ⟨0, [], none, 0, rfl, rfl, Nat.zero_le _, Lib.hid rfl, Lib.hid ⟨w1.heap.size, [], Nat.le_refl _, IsRw.nil _ _ _ _, rfl, fun i hi => absurd hi (Nat.not_lt_zero i)⟩, Lib.hid (Below.refl _ _)⟩
  case round =>
    obtain ⟨k, D, a2, c2, rfl, rfl, hk, HJ, HO, HB⟩ := hrel
    by_cases hk2 : k < 2
    · have hkd : decide ((k : Int) < 2) = true := decide_eq_true (by omega)
      obtain ⟨p, ap, cp, hload, hp, hps, hpl, hpn⟩ := HK.out k hk2 wr HB.out
      rw [HJ.out] at hpl hpn
      have HPL := Lib.hid hpl
      have HPN := Lib.hid hpn
      have HPS := Lib.hid hps
      have HX := Lib.hid hp.row
      have hpq := hp.len.2.2
      clear hps hpl hpn hp
      go_wp2_with fail
      obtain ⟨wo, rfl⟩ : ∃ wo, wo = wr := ⟨_, rfl⟩
      go_loopw [5, 20] (fun v i wi => ∃ (j : Nat) (G : List (List Mt.Av)) (a3 : Option Addr) (c3 : Nat), i = .int .i64 j ∧ v = .slice a3 G.length c3 ∧ j ≤ p.length ∧ Hid (G = D ++ p.take j) ∧ Hid (∃ g xs, w1.heap.size ≤ g ∧ IsRw 69 1 wi g (.slice a3 G.length c3) G.length xs ∧ AreRdns wi (fun b => w1.heap.size ≤ b ∧ b ≠ g) xs G) ∧ Hid (Below w1.heap.size w1 wi))
        (fun _ i _ => p.length - (intOf i).toNat)
      case atStart => exact ⟨0, D, a2, c2, rfl, rfl, Nat.zero_le _, Lib.hid (by simp), HO, HB⟩
      case round =>
        obtain ⟨j, G, a3, c3, rfl, rfl, hj, HG, HO3, HB3⟩ := hrel
        by_cases hlt : j < p.length
        · obtain ⟨b, off, rfl, x, hx, hload2⟩ := HX.out j hlt
          have hbw := HBA.out.trans (HB3.out.mono (by have := HZ.out; omega))
          have hl0 := hload2 wr hbw
          have HFR := Lib.hid (HPS.out _ (List.getElem_mem hlt))
          have HTK := Lib.hid (List.take_succ_eq_append_getElem hlt)
          obtain ⟨r, hr⟩ : ∃ r, p[j] = r := ⟨_, rfl⟩
          rw [hr] at hx HFR HTK
          have HC := Lib.hid (cloneR_any (hx.below hbw) HFR.out)
          obtain ⟨xa, xc, rfl, hrn, _⟩ := hx
          clear hload2 hbw hr
          go_wp2_with fail
          refine (HC.out).mono ?_
          rintro e w2 ⟨y, rfl, hy, hb2⟩
          have hyf : ∃ ya yc, y = .slice ya r.length yc := by
            obtain ⟨ya, yc, h, _⟩ := hy.avs
            exact ⟨ya, yc, h⟩
          obtain ⟨ya, yc, rfl⟩ := hyf
          obtain ⟨g, xs, hg, hrw, hds⟩ := HO3.out
          have hgl : (G.length + 1) * 24 ≤ 140737488355328 := by
            have h1 := congrArg List.length HG.out
            rw [List.length_append, List.length_take] at h1
            have e : G.length + 1 ≤ D.length + p.length + 1 := by omega
            exact Nat.le_trans (Nat.mul_le_mul_right 24 e) HPN.out
          obtain ⟨a6, c6, w6, g6, xs6, hrun2, hrw6, hds6, hg6, hb6⟩ := dn_step hrw hds rfl hg HB3.out.size hy hb2 hgl
          have HO6 := Lib.hid (And.intro hg6 (And.intro hrw6 hds6))
          have HB6 := Lib.hid ((HB3.out.trans (hb2.mono HB3.out.size)).trans hb6)
          clear hrw hds hrw6 hds6 hb6 hg6 hg hy hb2 hgl
          go_wp2_with (refine wpList_append_run rfl (.tmp 24) (.tmp 27) 43 43 rfl (.slice a3 G.length c3) (.slice (some ⟨w2.heap.size, 0, none⟩) 1 1) rfl rfl hrun2 ?_; clear hrun2)
          go_roundw
          case rel =>
            exact ⟨j + 1, G ++ [r], a6, c6, by go_num, by rw [List.length_append]; rfl, by omega, Lib.hid (by rw [HTK.out, HG.out, List.append_assoc]), by rw [List.length_append]; exact Lib.hid ⟨g6, xs6, HO6.out⟩, HB6⟩
          case measure => simp [intOf]; omega
        · have HGD : Hid (jparts rdns d (k + 1) = G) := Lib.hid (by
            rw [HPL.out, HG.out, List.take_of_length_le (by omega)])
          go_wp2_with fail
          go_roundw
          case rel => exact ⟨k + 1, G, a3, c3, by go_num, rfl, by omega, HGD, HO3, HB3⟩
          case measure => simp [intOf]; omega
    · have hk3 : k = 2 := by omega
      subst hk3
      have HJD : Hid (D = rdns ++ d) := Lib.hid HJ.out.symm
      have hDl : D.length ≤ 9223372036854775807 := by
        have h1 := congrArg List.length HJD.out
        rw [List.length_append] at h1
        have := HN.out
        omega
      go_wp2_with fail
      go_ret
      obtain ⟨g, xs, hg, hrw, hds⟩ := HO.out
      refine ⟨_, rfl, ?_, HBA.out.trans (HB.out.mono (by have := HZ.out; omega))⟩
      rw [← HJD.out]
      exact IsRw.dn hrw hds hDl
end Go.Proofs.Ythpedokhalndjab

/-
  A name that came in, of a bulk that is bounded; parts of a name.
-/
namespace Go.Proofs.Ythpedokhalndjab
open Go.RowKit Go.ChangeShapes Go.WideShapes Go.ChangeAt

theorem bulk_pos9 {H : Type} (d : DataW H) : 1 ≤ Rows.uptoBulk d := by
  cases d with
  | lit l => cases l <;> simp [Rows.uptoBulk]
  | _ => simp [Rows.uptoBulk]
theorem bulkAll_len9 {H : Type} : ∀ (l : List (DataW H)), l.length ≤ Rows.uptoBulkAll l
  | [] => Nat.zero_le _
  | d :: r => by
    have h1 := bulk_pos9 d
    have h2 := bulkAll_len9 r
    simp only [List.length_cons, Rows.uptoBulkAll]; omega
theorem bulkAll_mem9 {H : Type} : ∀ {l : List (DataW H)} {d : DataW H}, d ∈ l → Rows.uptoBulk d ≤ Rows.uptoBulkAll l
  | x :: r, d, h => by
    simp only [Rows.uptoBulkAll]
    rcases List.mem_cons.1 h with rfl | h
    · omega
    · have := bulkAll_mem9 h; omega
theorem open_dnS {H : Type} {enc : TypeId × Value → H} {W : World} {a : Option Addr} {n c : Nat} {d : DataW H} {p : List MemPlace} {ts : List TypeId} {ds : List (DataW H)} {j : Nat}
    (h : DataW.Trod enc Try.prog W 0 (fun _ => true) true 43 (.slice a n c) d p) (ht : ts[j]? = some 43) (hd : ds[j]? = some d) (hsz : (DataW.weightsEach Try.prog ts ds).all (· ≤ reachBytes) = true) (hk : Rows.uptoSmall H ds = true) : ∃ D, IsDn W (.slice a n c) D ∧ Mt.FitD D ∧ D.length ≤ 1048576 := by
  obtain ⟨D, hD, hF⟩ := open_dnW h ht hd hsz
  refine ⟨D, hD, hF, ?_⟩
  have hn := hD.len.1
  have hbk : Rows.uptoBulk d ≤ 1048576 := Nat.le_trans (bulkAll_mem9 (List.mem_of_getElem? hd)) (of_decide_eq_true hk)
  obtain ⟨fuel, hf⟩ := h
  rcases DataW.trod_slice Try.underlying43 hf with ⟨hcs, _⟩ | ⟨y, l, cp, elems, rest, n2, hmn, hcs, hy2, _, hl, hm, hlen, hel, _, _⟩
  · simp [Value.cells] at hcs
    omega
  · simp [Value.cells] at hcs
    have hy3 := congrArg Prod.fst hy2
    simp only at hy3
    have h1 : Rows.uptoBulk d = Rows.uptoBulkAll (elems.map (·.1)) + Rows.uptoBulkAll (rest.map (·.1)) + 1 := by rw [hy3]; rfl
    have h2 := bulkAll_len9 (elems.map (·.1))
    rw [List.length_map] at h2
    omega
theorem IsDn.drop' {w : World} {a aK : Option Addr} {cap k : Nat} {d : List (List Mt.Av)} (h : IsDn w (.slice a d.length cap) d) (hk : k ≤ d.length) (ha : (if cap = k then a else Option.map (fun x => x.add k) a) = aK) :
    IsDn w (.slice aK (d.length - k) (cap - k)) (d.drop k) := by
  by_cases e : cap = k
  · rw [if_pos e] at ha
    subst ha
    exact (h.drop hk).2 e
  · rw [if_neg e] at ha
    subst ha
    exact (h.drop hk).1
theorem IsDn.take {w : World} {a : Option Addr} {cap k : Nat} {d : List (List Mt.Av)} (h : IsDn w (.slice a d.length cap) d) (hk : k ≤ d.length) : IsDn w (.slice a k cap) (d.take k) := by
  obtain ⟨a1, cap1, h1, h2, h3, h4⟩ := h
  cases h1
  have hl : (d.take k).length = k := by rw [List.length_take]; omega
  refine ⟨_, _, by rw [hl], by omega, by omega, ?_⟩
  rcases h4 with rfl | ⟨b, off, rfl, h5, h6⟩
  · exact .inl (by simp)
  · refine .inr ⟨b, off, rfl, h5, fun i hi => ?_⟩
    obtain ⟨x, hx, hr⟩ := h6 i (by omega)
    exact ⟨x, hx, by rw [List.getElem_take]; exact hr⟩
theorem cutat9 (s : Nat) (x : Int) (hs : s ≤ 1048576) : ∃ K : Nat, K ≤ s ∧ wrap64 ((IntKind.u64.wrap x).tmod ((s : Int) + 1)) = (K : Int) := by
  have w0 : 0 ≤ IntKind.u64.wrap x := by rw [IntKind.wrap_u64]; omega
  obtain ⟨u, hu⟩ := Int.eq_ofNat_of_zero_le w0
  rw [hu]
  have hlt : u % (s + 1) < s + 1 := Nat.mod_lt _ (by omega)
  refine ⟨u % (s + 1), by omega, ?_⟩
  have e : (u : Int).tmod ((s : Int) + 1) = ((u % (s + 1) : Nat) : Int) := by
    rw [show ((s : Int) + 1) = ((s + 1 : Nat) : Int) by omega]
    exact (Int.ofNat_tmod _ _).symm
  rw [e]
  simp only [wrap64]
  omega
end Go.Proofs.Ythpedokhalndjab
