/-
  Some texts of one proof, one behind the other.
-/
import Derived.Test.YtngdbhncafnliaaGreatPk18
import Derived.Test.YtngdbhncafnliaaGreatPk33
set_option linter.unusedVariables false
set_option linter.unusedSimpArgs false

/-
  Names that came in, with the sizes of their parts; what the document's Twin comes to.
-/
namespace Go.Proofs.YtngdbhncafnliaaGreat
open Go.RowKit Go.Deep

/-- A name whose parts fit into memory. -/
def Mt.FitD (d : List (List Mt.Av)) : Prop := d.length * 24 ≤ 140737488351232 ∧ ∀ r ∈ d, r.length * 32 ≤ 140737488351232 ∧ ∀ a ∈ r, a.1.length ≤ 140737488351232 ∧ a.2.length ≤ 140737488351232
theorem bytesRdn' : Tryz.prog.bytesOf 89 = 24 := by kernel_rfl
theorem bytesAva' : Tryz.prog.bytesOf 87 = 32 := by kernel_rfl
theorem weightsAll_mem9 {H : Type} {P : Program} {e : TypeId} : ∀ {l : List (DataW H)} {d : DataW H} {n : Nat}, d ∈ l → n ∈ d.weights P e → n ∈ DataW.weightsAll P e l
  | _ :: l, d, n, h, hn => by
    simp only [DataW.weightsAll, List.mem_append]
    rcases List.mem_cons.1 h with rfl | h
    · exact .inl hn
    · exact .inr (weightsAll_mem9 h hn)

set_option maxRecDepth 100000 in
/-- An RDN that came in. -/
theorem open_rdnW {H : Type} {enc : TypeId × Value → H} {W : World} {fu : Nat} {cs : List Value} {x : DataW H × List MemPlace} (hf : DataW.trod enc Tryz.prog W 0 (fun _ => true) true fu 89 cs = some x) (h1 : cs.length = 1)
    (hw : ∀ k ∈ x.1.weights Tryz.prog 89, k ≤ reachBytes) :
    ∃ v r, cs = [v] ∧ IsAvs W v r ∧ r.length * 32 ≤ 140737488351232 ∧ ∀ a ∈ r, a.1.length ≤ 140737488351232 ∧ a.2.length ≤ 140737488351232 := by
  rcases DataW.trod_slice Tryz.underlying89 hf with ⟨hcs, _⟩ | ⟨y, l, cp, elems, rest, n, hmn, hcs, hy2, _, hl, hm, hlen, hel, _, _⟩
  · exact ⟨_, [], hcs, ⟨none, 0, rfl, by simp, by simp, .inl rfl⟩, by simp, by simp⟩
  · refine ⟨.slice (some y) l cp, ?_⟩
    rw [cellsAva] at hel
    have hl32 : l * 32 ≤ 140737488351232 := by
      have := hw ((elems.length + rest.length) * 32) (by rw [hy2]; simp [DataW.weights, Tryz.underlying89, bytesAva'])
      simp only [reachBytes] at this
      omega
    have hex : ∀ i : Nat, ∃ a : Mt.Av, i < l → (W.cell? (y.add (i * 2)) = some (.string (Mt.str a.1)) ∧ W.cell? ((y.add (i * 2)).add 1) = some (.string (Mt.str a.2))) ∧ a.1.length ≤ 140737488351232 ∧ a.2.length ≤ 140737488351232 := by
      intro i
      by_cases hin : i < l
      · have h := hel i hin
        rw [List.getElem?_eq_getElem (by omega)] at h
        obtain ⟨cs', hc, ht⟩ := Option.bind_eq_some_iff.1 h
        obtain ⟨_, hcl, hat⟩ := World.cells?_some hc
        have hmem : elems[i].1 ∈ elems.map (·.1) := List.mem_map.2 ⟨elems[i], List.getElem_mem _, rfl⟩
        have hwe : ∀ k ∈ elems[i].1.weights Tryz.prog 87, k ≤ reachBytes := fun k hk => hw k (by
          rw [hy2]; simp only [DataW.weights, Tryz.underlying89, List.mem_cons, List.mem_append]
          exact .inr (.inl (weightsAll_mem9 hmem hk)))
        obtain ⟨xs, m2, _, hxx, _, hxl, hg⟩ := DataW.trod_struct Tryz.underlying87 ht
        obtain ⟨c0, c1, rfl⟩ : ∃ c0 c1, cs' = [c0, c1] := by
          match cs', hcl with
          | [c0, c1], _ => exact ⟨c0, c1, rfl⟩
        obtain ⟨y0, y1, rfl⟩ : ∃ y0 y1, xs = [y0, y1] := by
          match xs, hxl with
          | [y0, y1], _ => exact ⟨y0, y1, rfl⟩
        · skip
          obtain ⟨S, e0, hy0, _⟩ := DataW.trod_string Tryz.underlying9 (x := y0) (by simpa [cellsStr9, Value.cells] using hg 0 _ rfl)
          obtain ⟨T, e1, hy1, _⟩ := DataW.trod_string Tryz.underlying9 (x := y1) (by simpa [cellsStr9, Value.cells] using hg 1 _ rfl)
          simp only [List.cons.injEq, and_true] at e0 e1
          subst e0 e1
          have hx1 : elems[i].1 = .agg [y0.1, y1.1] := by rw [hxx]; rfl
          have hs0 : S.data.toList.length ≤ reachBytes := hwe _ (by
            rw [hx1]; simp only [DataW.weights, Tryz.underlying87, List.map_cons, List.map_nil, DataW.weightsEach, List.mem_append]
            exact .inl (by rw [hy0]; simp [DataW.weights]))
          have hs1 : T.data.toList.length ≤ reachBytes := hwe _ (by
            rw [hx1]; simp only [DataW.weights, Tryz.underlying87, List.map_cons, List.map_nil, DataW.weightsEach, List.mem_append]
            exact .inr (.inl (by rw [hy1]; simp [DataW.weights])))
          refine ⟨(S.data.toList, T.data.toList), fun _ => ⟨⟨?_, ?_⟩, hs0, hs1⟩⟩
          · have := hat 0 (by decide); rw [add9_zero] at this; exact this
          · exact hat 1 (by decide)
      · exact ⟨([], []), fun h => absurd h hin⟩
    obtain ⟨f, hfm⟩ := Classical.axiomOfChoice hex
    refine ⟨(List.range l).map f, by simpa [Value.cells] using hcs, ⟨some y, cp, by simp, by simp; unfold maxLen at hm; omega, by simp; omega, ?_⟩, by simpa using hl32, fun a ha => ?_⟩
    · rcases Nat.eq_zero_or_pos l with h0 | h0
      · subst h0; exact .inl rfl
      · have hv := (hfm 0 h0).1.1
        rw [Nat.zero_mul, add9_zero] at hv
        obtain ⟨b, off, rfl⟩ := addr9_none hv
        refine .inr ⟨b, off, rfl, World.block_lt_of_cell? W _ hv, fun j hj => ?_⟩
        have hin : j < l := by simpa using hj
        have h2 := (hfm j hin).1
        rw [add_off, add_off] at h2
        simpa using h2
    · obtain ⟨i, hi, rfl⟩ := List.mem_map.1 ha
      exact (hfm i (List.mem_range.1 hi)).2
set_option maxRecDepth 100000 in
/-- A name that came in. -/
theorem open_dnW {H : Type} {enc : TypeId × Value → H} {W : World} {a : Option Addr} {n c : Nat} {d : DataW H} {p : List MemPlace} {ts : List TypeId} {ds : List (DataW H)} {j : Nat}
    (h : DataW.Trod enc Tryz.prog W 0 (fun _ => true) true 23 (.slice a n c) d p) (ht : ts[j]? = some 23) (hd : ds[j]? = some d) (hsz : (DataW.weightsEach Tryz.prog ts ds).all (· ≤ reachBytes) = true) : ∃ D, IsDn W (.slice a n c) D ∧ Mt.FitD D := by
  have hwt : ∀ k ∈ d.weights Tryz.prog 23, k ≤ reachBytes := fun k hk => by
    have := List.all_eq_true.1 hsz _ (DataW.weights_mem_each ht hd k hk)
    simpa using this
  obtain ⟨fuel, hf⟩ := h
  rcases DataW.trod_slice Tryz.underlying23 hf with ⟨hcs, _⟩ | ⟨y, l, cp, elems, rest, n2, hmn, hcs, hy2, _, hl, hm, hlen, hel, _, _⟩
  · simp [Value.cells] at hcs
    obtain ⟨rfl, rfl, rfl⟩ := hcs
    exact ⟨[], ⟨none, 0, rfl, by simp, by simp, .inl rfl⟩, by simp [Mt.FitD]⟩
  · simp [Value.cells] at hcs
    obtain ⟨rfl, rfl, rfl⟩ := hcs
    have hy3 := congrArg Prod.fst hy2
    simp only at hy3
    rw [cellsRdn] at hel
    have hl24 : n * 24 ≤ 140737488351232 := by
      have := hwt ((elems.length + rest.length) * 24) (by rw [hy3]; simp [DataW.weights, Tryz.underlying23, bytesRdn'])
      simp only [reachBytes] at this
      omega
    have hex : ∀ i : Nat, ∃ q : Value × List Mt.Av, i < n → (W.cell? (y.add i) = some q.1 ∧ IsAvs W q.1 q.2) ∧ q.2.length * 32 ≤ 140737488351232 ∧ ∀ a ∈ q.2, a.1.length ≤ 140737488351232 ∧ a.2.length ≤ 140737488351232 := by
      intro i
      by_cases hin : i < n
      · have h := hel i hin
        rw [List.getElem?_eq_getElem (by omega)] at h
        obtain ⟨cs', hc, ht2⟩ := Option.bind_eq_some_iff.1 h
        rw [Nat.mul_one] at hc
        obtain ⟨_, hcl, hat⟩ := World.cells?_some hc
        have hmem : elems[i].1 ∈ elems.map (·.1) := List.mem_map.2 ⟨elems[i], List.getElem_mem _, rfl⟩
        obtain ⟨x, r, rfl, hr, hr2⟩ := open_rdnW ht2 (by simpa using hcl) (fun k hk => hwt k (by
          rw [hy3]; simp only [DataW.weights, Tryz.underlying23, List.mem_cons, List.mem_append]
          exact .inr (.inl (weightsAll_mem9 hmem hk))))
        refine ⟨(x, r), fun _ => ⟨⟨?_, hr⟩, hr2⟩⟩
        have := hat 0 (by decide); rw [add9_zero] at this; exact this
      · exact ⟨(.bool false, []), fun h => absurd h hin⟩
    obtain ⟨f, hfm⟩ := Classical.axiomOfChoice hex
    refine ⟨(List.range n).map fun i => (f i).2, ⟨some y, c, by simp, by simp; unfold maxLen at hm; omega, by simp; omega, ?_⟩, by simpa using hl24, fun r hr => ?_⟩
    · rcases Nat.eq_zero_or_pos n with h0 | h0
      · subst h0; exact .inl rfl
      · have hv := (hfm 0 h0).1.1
        rw [add9_zero] at hv
        obtain ⟨b, off, rfl⟩ := addr9_none hv
        refine .inr ⟨b, off, rfl, World.block_lt_of_cell? W _ hv, fun j hj => ?_⟩
        have hin : j < n := by simpa using hj
        have h2 := (hfm j hin).1
        rw [add_off] at h2
        exact ⟨_, h2.1, by simpa using h2.2⟩
    · obtain ⟨i, hi, rfl⟩ := List.mem_map.1 hr
      exact (hfm i (List.mem_range.1 hi)).2

/-- A part of a slice of types and values, of any size, behind one of the call's own. -/
theorem own_catB {base : Nat} {w : World} {v : Value} {l1 : List Mt.Av} (h : IsOwn 87 2 base w v l1.length (avs l1)) (hbase : base ≤ w.heap.size) (x : Value) (l2 : List Mt.Av) (src : Src Tryz.prog 2 89 x l2.length (avs l2) w) (hn : (l1.length + l2.length) * 32 ≤ 140737488355328) :
    ∃ a' c' w', (∀ ty, (Builtin.append_ #[89, 89] ty #[v, x]).run Tryz.prog w = .ok (.slice a' (l1.length + l2.length) c') w') ∧ IsOwn 87 2 base w' (.slice a' (l1.length + l2.length) c') (l1 ++ l2).length (avs (l1 ++ l2)) ∧ Below base w w' := by
  obtain ⟨i0, hi, hz0, hz1, hz2⟩ := info_parts Tryz.infoAva
  obtain ⟨g, hg, h⟩ := h
  obtain ⟨v', w', g', hrun, hrw, hg', ho⟩ := rw_append (T := 89) (tx := 89) Tryz.underlying89 hi hz0 hz1 hz2 rfl h (avs_one _) x l2.length (avs l2) (by rw [hz1]; exact src) (by omega) (by omega)
  obtain ⟨a', c', rfl⟩ := hrw.form
  refine ⟨a', c', w', hrun, ⟨g', ?_, by rw [List.length_append, avs_append]; exact hrw⟩, ho.toBelow (by simpa using hg) hbase⟩
  rcases hg' with rfl | rfl
  · exact hg
  · exact hbase
theorem src_avs {w : World} {x : Value} {r : List Mt.Av} (h : IsAvs w x r) : Src Tryz.prog 2 89 x r.length (avs r) w := by
  obtain ⟨a, cap, rfl, hn, hle, hc⟩ := h
  rcases hc with rfl | ⟨b, off, rfl, hlt, hcell⟩
  · cases a with
    | none => exact Src.ofNil w Tryz.underlying89 cap
    | some ad => exact Src.ofSlice w Tryz.underlying89 ad 0 cap [] rfl (fun j u hu => by simp at hu) (by simp)
  · exact Src.ofSlice w Tryz.underlying89 ⟨b, off, none⟩ r.length cap _ (by rw [avs_length]) (fun j u hu => by
      rw [add_off]
      exact avs_cell hcell j u hu) (avs_one _)

end Go.Proofs.YtngdbhncafnliaaGreat

/-
  Whether a name lies under another one: plain lists, the program's Under, the document's.
-/
namespace Go.Proofs.YtngdbhncafnliaaGreat
open Go.RowKit
namespace Mt

theorem inter_drop (ls : List (List UInt8)) (k : Nat) : ([44].intercalate (ls.drop k)).length ≤ ([44].intercalate ls).length := by
  rw [inter_sum [44] rfl, inter_sum [44] rfl]
  have h1 : (ls.map List.length).sum = ((ls.take k).map List.length).sum + ((ls.drop k).map List.length).sum := by
    rw [← List.sum_append, ← List.map_append, List.take_append_drop]
  rw [List.length_drop]
  omega
def okD (d : List (List Av)) : Bool := match printD d with
  | .ok _ => true
  | .error _ => false
theorem print_drop {d : List (List Av)} {t : List UInt8} (h : printD d = .ok t) (k : Nat) : ∃ t', printD (d.drop k) = .ok t' := by
  obtain ⟨h32, hv, ht, hl⟩ := printD_good h
  refine ⟨_, printD_of (by rw [List.length_drop]; omega) (fun r hr => hv r (List.mem_of_mem_drop hr)) ?_ ?_⟩
  · have := inter_drop (d.map fun r => [43].intercalate (speltL r)) k
    rw [← List.map_drop] at this
    have h2 : (textL speltL d).length ≤ 4096 := by rw [← ht]; exact hl
    unfold textL at h2 ⊢
    omega
  · have := print_long h
    rw [List.any_eq_false] at this ⊢
    exact fun r hr => this r (List.mem_of_mem_drop hr)
theorem under_drop (d : List (List Av)) (k : Nat) (hk : k ≤ d.length) : underD d (d.drop k) = okD d := by
  unfold underD okD
  cases hp : printD d with
  | error e => rfl
  | ok t =>
    obtain ⟨t', ht'⟩ := print_drop hp k
    have hkey : keyD (d.drop k) = .ok (textL normL (d.drop k)) := by unfold keyD; rw [ht']
    rw [hkey]
    simp only [List.length_drop]
    rw [show d.length - (d.length - k) = k by omega]
    simp
theorem under_join (d base : List (List Av)) : underD (d ++ base) base = okD (d ++ base) := by
  have := under_drop (d ++ base) d.length (by simp)
  rw [List.drop_left] at this
  exact this
end Mt

theorem IsDn.drop {w : World} {a : Option Addr} {cap k : Nat} {d : List (List Mt.Av)} (h : IsDn w (.slice a d.length cap) d) (hk : k ≤ d.length) :
    IsDn w (.slice (a.map fun x => x.add k) (d.length - k) (cap - k)) (d.drop k) ∧ (cap = k → IsDn w (.slice a (d.length - k) (cap - k)) (d.drop k)) := by
  obtain ⟨a1, cap1, h1, h2, h3, h4⟩ := h
  cases h1
  refine ⟨⟨_, _, by rw [List.length_drop], by rw [List.length_drop]; omega, by rw [List.length_drop]; omega, ?_⟩, fun he => ⟨_, _, by rw [List.length_drop], by rw [List.length_drop]; omega, by rw [List.length_drop]; omega, .inl ?_⟩⟩
  · rcases h4 with rfl | ⟨b, off, rfl, h5, h6⟩
    · exact .inl (by simp)
    · refine .inr ⟨b, off + k, ?_, h5, fun i hi => ?_⟩
      · simp only [Option.map_some]; rw [add_off]
      · have hi2 : k + i < d.length := by rw [List.length_drop] at hi; omega
        obtain ⟨x, hx, hr⟩ := h6 (k + i) hi2
        rw [Nat.add_assoc]
        exact ⟨x, hx, by rw [List.getElem_drop]; exact hr⟩
  · exact List.drop_eq_nil_iff.2 (by omega)
theorem IsDn.len {w : World} {a : Option Addr} {n cap : Nat} {d : List (List Mt.Av)} (h : IsDn w (.slice a n cap) d) : n = d.length ∧ n ≤ cap ∧ n ≤ 9223372036854775807 := by
  obtain ⟨a1, cap1, h1, h2, h3, h4⟩ := h
  cases h1
  exact ⟨rfl, h3, h2⟩

set_option maxRecDepth 100000 in
set_option maxHeartbeats 1000000 in
theorem runder_any {w : World} {va vb : Value} {d base : List (List Mt.Av)} (hd : IsDn w va d) (hb : IsDn w vb base) (hs : ∀ r ∈ d, ∀ a ∈ r, a.1.length ≤ 140737488351232) (hs2 : ∀ r ∈ base, ∀ a ∈ r, a.1.length ≤ 140737488351232) :
    Calls Tryz.prog 54 #[va, vb] w fun e w' => e = .returned (.bool (Mt.underD d base)) ∧ Below w.heap.size w w' := by
  have HP := Lib.hid (rprint_any hd hs)
  have HN := Lib.hid (fun (u : World) (hu : Below w.heap.size w u) => rnorm_of rplain_any (hb.below hu) hs2)
  have HD := Lib.hid hd
  have HBS := Lib.hid hb
  obtain ⟨a, cap, rfl, hn, hcap, _⟩ := hd
  obtain ⟨a2, cap2, rfl, hn2, hcap2, _⟩ := hb
  obtain ⟨r2, t2, hrt2⟩ : ∃ r t, textV (Mt.keyD base) = .tuple #[.string r, .int .i64 t] := by
    cases Mt.keyD base <;> exact ⟨_, _, rfl⟩
  clear hs hs2
  unfold Mt.underD
  cases hp : Mt.printD d with
  | error e =>
    rw [hp] at HP
    have hei : ((e : Int) != 0) = true := by have := Mt.print_err hp; simp; omega
    unfold textV at HP
    simp only [hrt2] at HN
    clear hp hrt2
    go_enter Tryz.func54, Tryz.ntmps54
    go_wp2_with fail
    refine (HP.out).mono ?_
    rintro x w2 ⟨rfl, hb⟩
    have HN2 := Lib.hid (HN.out _ hb)
    have HB := Lib.hid hb
    clear hb
    go_wp2_with fail
    refine (HN2.out).mono ?_
    rintro x w3 ⟨rfl, hb⟩
    have HB3 := Lib.hid (HB.out.trans (hb.mono HB.out.size))
    clear hb
    go_wp2_with fail
    go_ret
    exact ⟨rfl, HB3.out⟩
  | ok t =>
    rw [hp] at HP
    have hg := Mt.ask_good (Mt.print_good hp).1
    unfold textV at HP
    cases hk : Mt.keyD base with
    | error e =>
      rw [hk] at HN
      have hei : ((e : Int) != 0) = true := by have := Mt.key_err hk; simp; omega
      unfold textV at HN
      clear hp hk
      go_enter Tryz.func54, Tryz.ntmps54
      go_wp2_with fail
      refine (HP.out).mono ?_
      rintro x w2 ⟨rfl, hb⟩
      have HN2 := Lib.hid (HN.out _ hb)
      have HB := Lib.hid hb
      clear hb
      go_wp2_with fail
      refine (HN2.out).mono ?_
      rintro x w3 ⟨rfl, hb⟩
      have HB3 := Lib.hid (HB.out.trans (hb.mono HB.out.size))
      clear hb
      go_wp2_with fail
      go_ret
      exact ⟨rfl, HB3.out⟩
    | ok kt =>
      rw [hk] at HN
      unfold textV at HN
      clear hp hk
      by_cases hle : base.length ≤ d.length
      · obtain ⟨K, hK⟩ : ∃ K, d.length - base.length = K := ⟨_, rfl⟩
        have hKi : (d.length : Int) - (base.length : Int) = (K : Int) := by omega
        have hKd : K ≤ d.length := by omega
        have HDR := Lib.hid (HD.out.drop hKd)
        have hgd : Mt.GoodD (d.drop K) := ⟨by rw [List.length_drop]; have := hg.1; omega, fun r hr => hg.2 r (List.mem_of_mem_drop hr)⟩
        have HW := Lib.hid (fun (u : World) (hu : Below w.heap.size w u) => rplain_any u _ _ (HDR.out.1.below hu) hgd)
        have HW2 := Lib.hid (fun (he : cap = K) (u : World) (hu : Below w.heap.size w u) => rplain_any u _ _ ((HDR.out.2 he).below hu) hgd)
        obtain ⟨T, hT⟩ : ∃ T, Mt.textL Mt.normL (d.drop K) = T := ⟨_, rfl⟩
        rw [hK, hT]
        have HTT := Lib.hid hT
        obtain ⟨z, hz⟩ : ∃ z, ((Mt.str T).toList == (Mt.str kt).toList) = z := ⟨_, rfl⟩
        have hz2 : (decide (base.length ≤ d.length) && decide (T = kt)) = z := by
          rw [decide_eq_true hle, Bool.true_and, ← hz, Bool.eq_iff_iff]
          simp only [decide_eq_true_eq, beq_iff_eq, ByteArray.toList_eq]
          constructor
          · rintro rfl; rfl
          · intro h; simpa [Mt.str] using h
        simp only [hz2]
        have hlt : decide ((d.length : Int) < (base.length : Int)) = false := decide_eq_false (by omega)
        clear hg hgd hz2 hK hT
        by_cases hck : cap = K
        · subst hck
          replace HW := Lib.hid (HW2.out rfl)
          rw [Nat.sub_self, show d.length - cap = 0 by omega] at HW
          clear HW2 HDR
          go_enter Tryz.func54, Tryz.ntmps54
          go_wp2_with fail
          refine (HP.out).mono ?_
          rintro x w2 ⟨rfl, hb⟩
          have HN2 := Lib.hid (HN.out _ hb)
          have HB := Lib.hid hb
          clear hb
          go_wp2_with fail
          refine (HN2.out).mono ?_
          rintro x w3 ⟨rfl, hb⟩
          have HB3 := Lib.hid (HB.out.trans (hb.mono HB.out.size))
          have HW3 := Lib.hid (HW.out _ HB3.out)
          clear hb
          go_wp2_with fail
          refine (HW3.out).mono ?_
          rintro x w4 ⟨y, D, rfl, hdn, hte, hgd2, hb⟩
          have HT2 := Lib.hid (rtext_any hdn hgd2)
          rw [Mt.text_of hte, HTT.out] at HT2
          obtain ⟨xa, xc, rfl, _⟩ := hdn
          have HB4 := Lib.hid (HB3.out.trans (hb.mono HB3.out.size))
          clear hb hte hgd2
          go_wp2_with fail
          refine (HT2.out).mono ?_
          rintro x w5 ⟨rfl, hb⟩
          have HB5 := Lib.hid (HB4.out.trans (hb.mono HB4.out.size))
          clear hb
          go_wp2_with fail
          go_ret
          exact ⟨rfl, HB5.out⟩
        · clear HW2 HDR
          go_enter Tryz.func54, Tryz.ntmps54
          go_wp2_with fail
          refine (HP.out).mono ?_
          rintro x w2 ⟨rfl, hb⟩
          have HN2 := Lib.hid (HN.out _ hb)
          have HB := Lib.hid hb
          clear hb
          go_wp2_with fail
          refine (HN2.out).mono ?_
          rintro x w3 ⟨rfl, hb⟩
          have HB3 := Lib.hid (HB.out.trans (hb.mono HB.out.size))
          have HW3 := Lib.hid (HW.out _ HB3.out)
          clear hb
          go_wp2_with fail
          refine (HW3.out).mono ?_
          rintro x w4 ⟨y, D, rfl, hdn, hte, hgd2, hb⟩
          have HT2 := Lib.hid (rtext_any hdn hgd2)
          rw [Mt.text_of hte, HTT.out] at HT2
          obtain ⟨xa, xc, rfl, _⟩ := hdn
          have HB4 := Lib.hid (HB3.out.trans (hb.mono HB3.out.size))
          clear hb hte hgd2
          go_wp2_with fail
          refine (HT2.out).mono ?_
          rintro x w5 ⟨rfl, hb⟩
          have HB5 := Lib.hid (HB4.out.trans (hb.mono HB4.out.size))
          clear hb
          go_wp2_with fail
          go_ret
          exact ⟨rfl, HB5.out⟩
      · have hlt : decide ((d.length : Int) < (base.length : Int)) = true := decide_eq_true (by omega)
        simp only [decide_eq_false hle, Bool.false_and]
        go_enter Tryz.func54, Tryz.ntmps54
        go_wp2_with fail
        refine (HP.out).mono ?_
        rintro x w2 ⟨rfl, hb⟩
        have HN2 := Lib.hid (HN.out _ hb)
        have HB := Lib.hid hb
        clear hb
        go_wp2_with fail
        refine (HN2.out).mono ?_
        rintro x w3 ⟨rfl, hb⟩
        have HB3 := Lib.hid (HB.out.trans (hb.mono HB.out.size))
        clear hb
        go_wp2_with fail
        go_ret
        exact ⟨rfl, HB3.out⟩
end Go.Proofs.YtngdbhncafnliaaGreat

/-
  What slices.Clone of an RDN, and dn.Join, come to.
-/
namespace Go.Proofs.YtngdbhncafnliaaGreat
open Go.RowKit

/-- The parts of which so many have been laid. -/
def jparts (rdns d : List (List Mt.Av)) : Nat → List (List Mt.Av)
  | 0 => []
  | 1 => rdns
  | _ => rdns ++ d

theorem jp_step {w u : World} {B : Nat} {d rdns : List (List Mt.Av)} {ar ad : Option Addr} {cr cd : Nat} (hn : (rdns.length + d.length + 1) * 24 ≤ 140737488355328) (hr0 : IsDn w (.slice ar rdns.length cr) rdns) (hd0 : IsDn w (.slice ad d.length cd) d)
    (hs2 : ∀ r ∈ rdns, r.length * 32 ≤ 140737488351232) (hs : ∀ r ∈ d, r.length * 32 ≤ 140737488351232) (q1 : u.cell? ⟨B, 0, none⟩ = some (.slice ar rdns.length cr)) (q2 : u.cell? ⟨B, 1, none⟩ = some (.slice ad d.length cd)) (k : Nat) (hk : k < 2) :
    ∃ (p : List (List Mt.Av)) (ap : Option Addr) (cp : Nat), u.cell? ⟨B, k, none⟩ = some (.slice ap p.length cp) ∧ IsDn w (.slice ap p.length cp) p ∧ (∀ r ∈ p, r.length * 32 ≤ 140737488351232) ∧ jparts rdns d (k + 1) = jparts rdns d k ++ p ∧ ((jparts rdns d k).length + p.length + 1) * 24 ≤ 140737488355328 := by
  rcases Nat.lt_or_ge k 1 with h | h
  · have h0 : k = 0 := by omega
    subst h0
    refine ⟨rdns, ar, cr, q1, hr0, hs2, rfl, ?_⟩
    have e : (jparts rdns d 0).length + rdns.length + 1 ≤ rdns.length + d.length + 1 := by
      have e0 : (jparts rdns d 0).length = 0 := rfl
      omega
    exact Nat.le_trans (Nat.mul_le_mul_right 24 e) hn
  · have h1 : k = 1 := by omega
    subst h1
    refine ⟨d, ad, cd, q2, hd0, hs, rfl, ?_⟩
    have e : (jparts rdns d 1).length + d.length + 1 ≤ rdns.length + d.length + 1 := by
      have e0 : (jparts rdns d 1).length = rdns.length := rfl
      omega
    exact Nat.le_trans (Nat.mul_le_mul_right 24 e) hn

end Go.Proofs.YtngdbhncafnliaaGreat

/-
  A name that came in, of a bulk that is bounded; parts of a name.
-/
namespace Go.Proofs.YtngdbhncafnliaaGreat
open Go.RowKit Go.ChangeShapes Go.WideShapes Go.ChangeAt

theorem bulk_pos9 {H : Type} (d : DataW H) : 1 ≤ Rows.uptoBulk d := by
  cases d with
  | lit l => cases l <;> simp [Rows.uptoBulk]
  | _ => simp [Rows.uptoBulk]
theorem bulkAll_len9 {H : Type} : ∀ (l : List (DataW H)), l.length ≤ Rows.uptoBulkAll l
  | [] => Nat.zero_le _
  | d :: r => by
    have h1 := bulk_pos9 d
    have h2 := bulkAll_len9 r
    simp only [List.length_cons, Rows.uptoBulkAll]; omega
theorem bulkAll_mem9 {H : Type} : ∀ {l : List (DataW H)} {d : DataW H}, d ∈ l → Rows.uptoBulk d ≤ Rows.uptoBulkAll l
  | x :: r, d, h => by
    simp only [Rows.uptoBulkAll]
    rcases List.mem_cons.1 h with rfl | h
    · omega
    · have := bulkAll_mem9 h; omega
theorem open_dnS {H : Type} {enc : TypeId × Value → H} {W : World} {a : Option Addr} {n c : Nat} {d : DataW H} {p : List MemPlace} {ts : List TypeId} {ds : List (DataW H)} {j : Nat}
    (h : DataW.Trod enc Tryz.prog W 0 (fun _ => true) true 23 (.slice a n c) d p) (ht : ts[j]? = some 23) (hd : ds[j]? = some d) (hsz : (DataW.weightsEach Tryz.prog ts ds).all (· ≤ reachBytes) = true) (hk : Rows.uptoSmall H ds = true) : ∃ D, IsDn W (.slice a n c) D ∧ Mt.FitD D ∧ D.length ≤ 1048576 := by
  obtain ⟨D, hD, hF⟩ := open_dnW h ht hd hsz
  refine ⟨D, hD, hF, ?_⟩
  have hn := hD.len.1
  have hbk : Rows.uptoBulk d ≤ 1048576 := Nat.le_trans (bulkAll_mem9 (List.mem_of_getElem? hd)) (of_decide_eq_true hk)
  obtain ⟨fuel, hf⟩ := h
  rcases DataW.trod_slice Tryz.underlying23 hf with ⟨hcs, _⟩ | ⟨y, l, cp, elems, rest, n2, hmn, hcs, hy2, _, hl, hm, hlen, hel, _, _⟩
  · simp [Value.cells] at hcs
    omega
  · simp [Value.cells] at hcs
    have hy3 := congrArg Prod.fst hy2
    simp only at hy3
    have h1 : Rows.uptoBulk d = Rows.uptoBulkAll (elems.map (·.1)) + Rows.uptoBulkAll (rest.map (·.1)) + 1 := by rw [hy3]; rfl
    have h2 := bulkAll_len9 (elems.map (·.1))
    rw [List.length_map] at h2
    omega
theorem IsDn.drop' {w : World} {a aK : Option Addr} {cap k : Nat} {d : List (List Mt.Av)} (h : IsDn w (.slice a d.length cap) d) (hk : k ≤ d.length) (ha : (if cap = k then a else Option.map (fun x => x.add k) a) = aK) :
    IsDn w (.slice aK (d.length - k) (cap - k)) (d.drop k) := by
  by_cases e : cap = k
  · rw [if_pos e] at ha
    subst ha
    exact (h.drop hk).2 e
  · rw [if_neg e] at ha
    subst ha
    exact (h.drop hk).1
theorem IsDn.take {w : World} {a : Option Addr} {cap k : Nat} {d : List (List Mt.Av)} (h : IsDn w (.slice a d.length cap) d) (hk : k ≤ d.length) : IsDn w (.slice a k cap) (d.take k) := by
  obtain ⟨a1, cap1, h1, h2, h3, h4⟩ := h
  cases h1
  have hl : (d.take k).length = k := by rw [List.length_take]; omega
  refine ⟨_, _, by rw [hl], by omega, by omega, ?_⟩
  rcases h4 with rfl | ⟨b, off, rfl, h5, h6⟩
  · exact .inl (by simp)
  · refine .inr ⟨b, off, rfl, h5, fun i hi => ?_⟩
    obtain ⟨x, hx, hr⟩ := h6 i (by omega)
    exact ⟨x, hx, by rw [List.getElem_take]; exact hr⟩
theorem cutat9 (s : Nat) (x : Int) (hs : s ≤ 1048576) : ∃ K : Nat, K ≤ s ∧ wrap64 ((IntKind.u64.wrap x).tmod ((s : Int) + 1)) = (K : Int) := by
  have w0 : 0 ≤ IntKind.u64.wrap x := by rw [IntKind.wrap_u64]; omega
  obtain ⟨u, hu⟩ := Int.eq_ofNat_of_zero_le w0
  rw [hu]
  have hlt : u % (s + 1) < s + 1 := Nat.mod_lt _ (by omega)
  refine ⟨u % (s + 1), by omega, ?_⟩
  have e : (u : Int).tmod ((s : Int) + 1) = ((u % (s + 1) : Nat) : Int) := by
    rw [show ((s : Int) + 1) = ((s + 1 : Nat) : Int) by omega]
    exact (Int.ofNat_tmod _ _).symm
  rw [e]
  simp only [wrap64]
  omega
end Go.Proofs.YtngdbhncafnliaaGreat
