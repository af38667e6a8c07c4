/-
  Some texts of one proof, one behind the other.
-/
import Derived.LoopTactic
import Derived.Test.YtnioagojiipjlaaGreatPk22
import Derived.Test.YtnioagojiipjlaaGreatPk30
import Derived.Test.YtnioagojiipjlaaGreatPk44
set_option linter.unusedVariables false
set_option linter.unusedSimpArgs false

/-
  The document's Records.
-/
namespace Go.Proofs.YtnioagojiipjlaaGreat
open Go.RowKit Go.Maps
theorem Mt.sec_len {d : Mt.Dk} (ho : d.Ok) (hf : d.off = false) {i : Nat} (hi : i < d.lasts.length) : (d.sec i).length = 128 := by
  have ha : d.ask (i : Int) = 0 := by unfold Mt.Dk.ask; rw [hf]; simp; omega
  have h1 : d.sec i = (d.waits.getD i none).getD (d.lasts.getD i []) := by unfold Mt.Dk.sec Mt.Dk.read; rw [if_pos ha]; rfl
  rw [h1]
  cases hw : d.waits.getD i none with
  | none =>
    have e : d.lasts.getD i [] = d.lasts[i] := by simp [List.getD, List.getElem?_eq_getElem hi]
    show (d.lasts.getD i []).length = 128
    rw [e]
    exact ho.lasts i hi
  | some b =>
    refine ho.waits i b ?_
    rw [List.getD_eq_getElem?_getD] at hw
    cases hx : d.waits[i]? with
    | none => rw [hx] at hw; cases hw
    | some y => rw [hx] at hw; simp at hw; rw [hw]
theorem Mt.read_sec {d : Mt.Dk} (hf : d.off = false) {i : Nat} (hi : i < d.lasts.length) : d.read (i : Int) = (d.sec i, 0) := by
  have h := Mt.read_on hf hi
  unfold Mt.Dk.sec
  rw [← h]
theorem Mt.isCl_parts {s : List UInt8} (h : Mt.isCl s) : (Mt.rdCell s).part < (Mt.rdCell s).parts := by
  have h2 := h.2.2.2.1
  unfold Mt.rdCell
  rw [if_pos h]
  unfold Mt.Cl.sound at h2
  split at h2
  · cases h2
  · omega
theorem Mt.rdCell_parts (s : List UInt8) : (Mt.rdCell s).parts < 65536 := by
  unfold Mt.rdCell
  split
  · have := Mt.gn_lt s 15 2
    show Mt.gn s 15 2 < _
    omega
  · show 0 < 65536; omega
theorem Mt.rdCell_not {s : List UInt8} (h : ¬ Mt.isCl s) : Mt.rdCell s = Mt.Cl.zero := by unfold Mt.rdCell; rw [if_neg h]
theorem Mt.record_none {l : List Mt.Cl} {gen m : Nat} (h : (l.getD 0 Mt.Cl.zero).parts = 0) : (Mt.record l gen m).2 = 0 := by
  unfold Mt.record
  split
  · rfl
  · split
    · exact h
    · rfl
theorem Mt.rec_stop {s : List UInt8} {l : List Mt.Cl} {gen m : Nat} (hl : 0 < l.length) (h0 : l[0] = Mt.rdCell s) (hn : ¬ (Mt.isCl s ∧ (Mt.rdCell s).gen = gen ∧ (Mt.rdCell s).number = m ∧ (Mt.rdCell s).part = 0 ∧ (Mt.rdCell s).parts ≤ l.length)) : (Mt.record l gen m).2 = 0 := by
  have hd : l.getD 0 Mt.Cl.zero = Mt.rdCell s := by rw [List.getD_eq_getElem?_getD, List.getElem?_eq_getElem hl, Option.getD_some, h0]
  by_cases hi : Mt.isCl s
  · by_cases hf : l.length < (Mt.rdCell s).parts
    · rw [Mt.record_far (by rw [hd]; exact hf)]
    · have hp := Mt.isCl_parts hi
      rw [Mt.record_bad hl (by rw [hd]; omega) (fun hc => hn ?_)]
      rw [h0] at hc
      exact ⟨hi, hc.1, hc.2.1, hc.2.2.2, by omega⟩
  · exact Mt.record_none (by rw [hd, Mt.rdCell_not hi]; rfl)
theorem Mt.rec_stop2 {s : List UInt8} {l : List Mt.Cl} {gen m k P : Nat} (hg : gen ≠ 0) (hk : k < l.length) (hP : (l.getD 0 Mt.Cl.zero).parts = P) (hp : k < P) (h0 : l[k] = Mt.rdCell s) (hn : ¬ (Mt.isCl s ∧ (Mt.rdCell s).gen = gen ∧ (Mt.rdCell s).number = m ∧ (Mt.rdCell s).part = k ∧ (Mt.rdCell s).parts = P)) : (Mt.record l gen m).2 = 0 := by
  rw [Mt.record_bad hk (by rw [hP]; exact hp) (fun hc => hn ?_)]
  rw [h0, hP] at hc
  by_cases hi : Mt.isCl s
  · exact ⟨hi, hc.1, hc.2.1, hc.2.2.2, hc.2.2.1⟩
  · exfalso
    have h1 := hc.1
    rw [Mt.rdCell_not hi] at h1
    exact hg h1.symm
/-- How a chain of tests goes: the first that is against it, or none. -/
inductive Chain5 : Bool → Bool → Bool → Bool → Bool → Bool → Prop
  | a (v2 v3 v4 v5) : Chain5 false v2 v3 v4 v5 false
  | b (v3 v4 v5) : Chain5 true true v3 v4 v5 false
  | c (v4 v5) : Chain5 true false true v4 v5 false
  | d (v5) : Chain5 true false false true v5 false
  | e : Chain5 true false false false true false
  | ok : Chain5 true false false false false true
theorem chain5 (v1 v2 v3 v4 v5 : Bool) : ∃ z, Chain5 v1 v2 v3 v4 v5 z := by
  cases v1
  · exact ⟨_, .a ..⟩
  cases v2
  · cases v3
    · cases v4
      · cases v5
        · exact ⟨_, .ok⟩
        · exact ⟨_, .e⟩
      · exact ⟨_, .d ..⟩
    · exact ⟨_, .c ..⟩
  · exact ⟨_, .b ..⟩
theorem Chain5.no {v1 v2 v3 v4 v5 : Bool} (h : Chain5 v1 v2 v3 v4 v5 false) : ¬ (v1 = true ∧ v2 = false ∧ v3 = false ∧ v4 = false ∧ v5 = false) := by
  rintro ⟨rfl, rfl, rfl, rfl, rfl⟩
  cases h
theorem Chain5.yes {v1 v2 v3 v4 v5 : Bool} (h : Chain5 v1 v2 v3 v4 v5 true) : v1 = true ∧ v2 = false ∧ v3 = false ∧ v4 = false ∧ v5 = false := by
  cases h; exact ⟨rfl, rfl, rfl, rfl, rfl⟩
theorem ne_false_iff (a b : Nat) : ((a : Int) != (b : Int)) = false ↔ a = b := by
  constructor
  · intro h
    have := (bne_eq_false_iff_eq).1 h
    omega
  · rintro rfl
    simp
/-- One element more; what was made behind the row's last turn stays. -/
theorem own_past {E T tx : TypeId} {s base n by' K : Nat} {w0 w : World} {v : Value} {xs : List Value} {i : TypeInfo} {z : Value} (ht : Tryz.prog.underlying T = some (.slice E)) (htx : Tryz.prog.underlying tx = some (.slice E)) (hi : Tryz.prog.info? E = some i) (hz : i.zero = some z) (hs : i.size = s) (hby : i.bytes = by') (hzs : z.cells.size = s)
    (h : IsOwn E s base w0 v n xs) (hK : w0.heap.size = K) (hb : Below K w0 w) (hbase : base ≤ K) (h1 : ∀ u ∈ xs, u.oneCell' = true) (cells : Array Value) (hc : cells.size = s) (hc1 : ∀ u ∈ cells.toList, u.oneCell' = true) (hfit : (n + 1) * by' ≤ 140737488355328) (h63 : n + 1 ≤ 4611686018427387904) :
    ∃ a' c' w', (∀ ty, (Builtin.append_ #[T, tx] ty #[v, .slice (some ⟨w.heap.size, 0, none⟩) 1 1]).run Tryz.prog (w.alloc (.cells cells E)) = .ok (.slice a' (n + 1) c') w') ∧ IsOwn E s base w' (.slice a' (n + 1) c') (n + 1) (xs ++ cells.toList) ∧ Below base w w' ∧ ∀ k, K ≤ k → k < w.heap.size → w'.heap[k]? = w.heap[k]? := by
  subst hK
  have hsw := hb.size
  obtain ⟨g, hg, hr⟩ := h
  have hn : ∃ g, base ≤ g ∧ (g < w0.heap.size ∨ w.heap.size < g) ∧ IsRw E s w g v n xs := by
    rcases hr.norm (w.heap.size + base + 1) with h2 | h2
    · exact ⟨g, hg, .inl h2, hr.below hb⟩
    · exact ⟨_, by omega, .inr (by omega), h2.below hb⟩
  obtain ⟨g, hg, hgk, h⟩ := hn
  have hbel := (Below.refl w.heap.size w).alloc (Nat.le_refl _) (.cells cells E)
  have h := h.below hbel
  have src : Src Tryz.prog i.size tx (.slice (some ⟨w.heap.size, 0, none⟩) 1 1) 1 cells.toList (w.alloc (.cells cells E)) :=
    Src.ofSlice _ htx ⟨w.heap.size, 0, none⟩ 1 1 _ (by rw [hs, Array.length_toList, hc, Nat.one_mul]) (fun j u hu => by
      rw [add_off, cell_of_row _ w.heap.size _ _ _ _ (heap_alloc_new w _), Nat.zero_add]
      simpa using hu) hc1
  obtain ⟨v', w', g', hrun, hrw, hg', ho⟩ := rw_append (T := T) (tx := tx) ht hi hz hs hby hzs h h1 _ 1 cells.toList src hfit h63
  obtain ⟨a', c', rfl⟩ := hrw.form
  have hsz : (w.alloc (.cells cells E)).heap.size = w.heap.size + 1 := by simp
  refine ⟨a', c', w', hrun, ⟨g', ?_, hrw⟩, ?_, fun k hk1 hk2 => ?_⟩
  · rcases hg' with rfl | rfl
    · exact hg
    · rw [hsz]; omega
  · have h2 := ho.toBelow (D := base) (by simpa using hg) (by rw [hsz]; omega)
    exact (hbel.mono (by omega)).trans h2
  · rw [ho.block k (by rw [hsz]; omega) (by simp; omega)]
    exact hbel.block k hk2
/-- What Records keeps. -/
structure RecQ (w wr : World) (gen : Nat) (L : List Mt.Cl) (p : Nat) (out : List (List UInt8)) (vo : Value) : Prop where
  own : IsOwn 9 1 w.heap.size wr vo out.length (tcs out)
  rest : ∃ f, (L.drop p).length ≤ f ∧ Mt.records L gen = out ++ Mt.recordsF f (L.drop p) gen out.length
  less : out.length ≤ p
  below : Below w.heap.size w wr
theorem RecQ.fin {w wr : World} {gen p : Nat} {L : List Mt.Cl} {out : List (List UInt8)} {vo : Value} (h : RecQ w wr gen L p out vo) (h0 : (L.drop p).length = 0 ∨ (Mt.record (L.drop p) gen out.length).2 = 0) : Mt.records L gen = out := by
  obtain ⟨f, _, h2⟩ := h.rest
  rw [h2, Mt.recordsF_none h0, List.append_nil]
end Go.Proofs.YtnioagojiipjlaaGreat

/-
  The document's Records, walked.
-/
namespace Go.Proofs.YtnioagojiipjlaaGreat
open Go.RowKit Go.Maps
section
variable {w u : World} {Q : Nat} {g : Rg} {t : Nat} {j : Mt.Jn} {sl : Int} {d : Mt.Dk}
set_option maxRecDepth 100000 in
set_option maxHeartbeats 2000000 in
theorem rrecords_any (h : QD w Q g t j sl d) (hoff : d.off = false) (half gen : Nat) (hh : half ≤ 1) (hg : gen ≠ 0) :
    Calls Tryz.prog 44 #[.pointer (some ⟨Q, 0, none⟩), .int .i64 (half : Int), .int .i64 (gen : Int)] w fun e w' => ∃ a c, e = .returned (.slice a (Mt.records (d.cellsFrom (2 + half * Mt.hsize d.lasts.length) (Mt.hsize d.lasts.length)) gen).length c) ∧ IsOwn 9 1 w.heap.size w' (.slice a (Mt.records (d.cellsFrom (2 + half * Mt.hsize d.lasts.length) (Mt.hsize d.lasts.length)) gen).length c) (Mt.records (d.cellsFrom (2 + half * Mt.hsize d.lasts.length) (Mt.hsize d.lasts.length)) gen).length (tcs (Mt.records (d.cellsFrom (2 + half * Mt.hsize d.lasts.length) (Mt.hsize d.lasts.length)) gen)) ∧ Below w.heap.size w w' := by
  obtain ⟨i0, hi, hz0, hz1, hz2⟩ := info_parts Tryz.infoStr6
  have HI := Lib.hid (And.intro hi (And.intro hz0 (And.intro hz1 hz2)))
  have HSZ : Hid (∀ u, Below w.heap.size w u → Calls Tryz.prog 40 #[.pointer (some ⟨Q, 0, none⟩)] u fun e w' => e = .returned (.int .i64 (Mt.hsize d.lasts.length : Int)) ∧ u = w') := Lib.hid (fun u hu => rsize_any (h.below hu))
  have HRD : Hid (∀ i, i < d.lasts.length → ∀ u, Below w.heap.size w u → Calls Tryz.prog 41 #[.pointer (some ⟨g.R, 0, none⟩), .int .i64 (i : Int)] u fun e w' => e = .returned (.tuple #[.string (Mt.str (d.sec i)), .int .i64 0]) ∧ u = w') := Lib.hid (fun i hi u hu => by
    have := eread_any (h.dk.below hu) (i : Int)
    rw [Mt.read_sec hoff hi] at this
    exact this)
  have HRC : Hid (∀ i, i < d.lasts.length → ∀ u, Calls Tryz.prog 43 #[.string (Mt.str (d.sec i))] u fun e w' => e = .returned (.tuple #[.agg (rclV (Mt.rdCell (d.sec i))), .bool (decide (Mt.isCl (d.sec i)))]) ∧ Below u.heap.size u w') := Lib.hid (fun i hi u => rread_any (d.sec i) u (Mt.sec_len h.dk.ok hoff hi))
  have HQ0 : Hid (∀ u, Below w.heap.size w u → u.cell? ⟨Q, 0, none⟩ = some (.pointer (some ⟨g.R, 0, none⟩))) := Lib.hid (fun u hu => (h.below hu).jn.cells.1)
  have hzl := Mt.hsize_le h.dk.ok.most
  have hz2n : 2 + 2 * Mt.hsize d.lasts.length ≤ d.lasts.length := by have := h.four; unfold Mt.hsize; omega
  have hmo := h.dk.ok.most
  obtain ⟨z, hz⟩ : ∃ z, Mt.hsize d.lasts.length = z := ⟨_, rfl⟩
  rw [hz] at HSZ hzl hz2n ⊢
  obtain ⟨F, hF⟩ : ∃ F, 2 + half * z = F := ⟨_, rfl⟩
  have hFz : F + z ≤ d.lasts.length ∧ F ≤ 4097 := by
    rcases Nat.eq_zero_or_pos half with e | e
    · subst e; omega
    · obtain rfl : half = 1 := by omega
      omega
  have hF1 : wrap64 ((half : Int) * (z : Int)) = (half : Int) * (z : Int) := by
    have e : (half : Int) * (z : Int) = ((half * z : Nat) : Int) := by push_cast; rfl
    rw [e]; simp only [wrap64]; omega
  have hF2 : (2 : Int) + (half : Int) * (z : Int) = (F : Int) := by rw [← hF]; push_cast; rfl
  have hF3 : wrap64 ((F : Int) + (z : Int)) = ((F + z : Nat) : Int) := by simp only [wrap64]; omega
  have hF4 : wrap64 (F : Int) = (F : Int) := by simp only [wrap64]; omega
  rw [hF]
  have HLG : Hid (∀ p (hp : p < (d.cellsFrom F z).length), (d.cellsFrom F z)[p] = Mt.rdCell (d.sec (F + p))) := Lib.hid (fun p hp => by simp [Mt.Dk.cellsFrom])
  have HLL := Lib.hid (Mt.cellsFrom_length d F z)
  have HLB := Lib.hid (Mt.row_body d F z)
  generalize d.cellsFrom F z = L at *
  have HB := Lib.hid (And.intro hFz.1 (And.intro hFz.2 (And.intro hmo hzl)))
  have HG := Lib.hid hg
  have HR0 : Hid (RecQ w w gen L 0 [] (.slice none 0 0)) := Lib.hid ⟨IsOwn.nil _ _ _ _, ⟨L.length, Nat.le_refl _, rfl⟩, Nat.le_refl _, Below.refl _ _⟩
  have HPOST : Hid (∀ (a : Option Addr) (c : Nat) (out : List (List UInt8)) (w' : World), Mt.records L gen = out → IsOwn 9 1 w.heap.size w' (.slice a out.length c) out.length (tcs out) → Below w.heap.size w w' → (fun (e : Ending) (w' : World) => ∃ a c, e = .returned (.slice a (Mt.records L gen).length c) ∧ IsOwn 9 1 w.heap.size w' (.slice a (Mt.records L gen).length c) (Mt.records L gen).length (tcs (Mt.records L gen)) ∧ Below w.heap.size w w') (.returned (.slice a out.length c)) w') := Lib.hid (fun a c out w' h1 h2 h3 => ⟨a, c, by rw [h1], by rw [h1]; exact h2, h3⟩)
  generalize hPP : (fun (e : Ending) (w' : World) => ∃ a c, e = .returned (.slice a (Mt.records L gen).length c) ∧ IsOwn 9 1 w.heap.size w' (.slice a (Mt.records L gen).length c) (Mt.records L gen).length (tcs (Mt.records L gen)) ∧ Below w.heap.size w w') = PP at *
  clear hPP hi hz0 hz1 hz2 hg hz hF hFz hzl hz2n hmo h hoff
  have q0 := HQ0.out w (Below.refl _ _)
  go_enter Tryz.func44, Tryz.ntmps44
  go_wp2_with fail
  refine (HSZ.out _ (Below.refl _ _)).mono ?_
  rintro e w1 ⟨rfl, rfl⟩
  go_wp2_with fail
  rw [hF4]
  obtain ⟨hX, hhX⟩ : ∃ hX, wrap64 ((half : Int) * (z : Int)) = hX := ⟨_, rfl⟩
  rw [hhX]
  clear hF1 hF2 hF4 hhX
  refine (HSZ.out _ (Below.refl _ _)).mono ?_
  rintro e w1 ⟨rfl, rfl⟩
  go_wp2_with fail
  obtain ⟨E, hE⟩ : ∃ E, F + z = E := ⟨_, rfl⟩
  rw [hE] at hF3
  have HEE := Lib.hid hE
  rw [hF3]
  clear hF3 hE q0
  go_loopw [7, 8, 10, 11, 12, 13, 14, 15, 16, 17, 18, 19] (fun vo pv _ _ _ _ _ _ _ _ _ _ wr => ∃ (p A : Nat) (out : List (List UInt8)) (a : Option Addr) (c m : Nat), p ≤ z ∧ A = F + p ∧ out.length = m ∧ pv = .int .i64 (A : Int) ∧ vo = .slice a m c ∧ Hid (RecQ w wr gen L p out (.slice a m c)))
    (fun _ pv _ _ _ _ _ _ _ _ _ _ _ => E - (intOf pv).toNat)
  case atStart => exact ⟨0, F, [], none, 0, 0, Nat.zero_le _, rfl, rfl, rfl, rfl, HR0⟩
  case round =>
    obtain ⟨p, A, out, a, c, m, hp, hA, hom, rfl, rfl, HRA⟩ := hrel
    have hb := HB.out
    have hEz := HEE.out
    by_cases hlt : p < z
    · have hAd : A < d.lasts.length := by omega
      have d1 : decide (A < E) = true := decide_eq_true (by omega)
      have d2 : decide ((A : Int) < (E : Int)) = true := decide_eq_true (by omega)
      have q0 := HQ0.out wr HRA.out.below
      have HR1 := Lib.hid (HRD.out A hAd wr HRA.out.below)
      have HR2 := Lib.hid (HRC.out A hAd wr)
      have hlp : (L.drop p).length = z - p := by rw [List.length_drop, HLL.out]
      have hl0 : (L.drop p)[0]'(by rw [hlp]; omega) = Mt.rdCell (d.sec A) := by
        rw [List.getElem_drop, HLG.out _ (by rw [HLL.out]; omega), hA]; simp
      have hcp : (L.drop p).length = z - p ∧ (L.drop p).getD 0 Mt.Cl.zero = Mt.rdCell (d.sec A) := ⟨hlp, by rw [List.getD_eq_getElem?_getD, List.getElem?_eq_getElem (by rw [hlp]; omega), Option.getD_some, hl0]⟩
      have HST := Lib.hid (fun hn => Mt.rec_stop (gen := gen) (m := m) (by rw [hlp]; omega) hl0 hn)
      have HFIN := Lib.hid (fun (hn : (Mt.record (L.drop p) gen m).2 = 0) => HRA.out.fin (.inr (by rw [hom]; exact hn)))
      have HCP := Lib.hid hcp
      have HOM := Lib.hid hom
      have HAP := Lib.hid hA
      have HLT := Lib.hid hlt
      have hcl : (Mt.rdCell (d.sec A)).gen < 4294967296 ∧ (Mt.rdCell (d.sec A)).parts < 65536 := ⟨Mt.rdCell_gen _, Mt.rdCell_parts _⟩
      have hA2 : A ≤ 8192 := by omega
      have hmp : m ≤ 4095 := by have := HRA.out.less; omega
      clear hlp hl0 hcp
      generalize hs0 : d.sec A = s at *
      have HS0 := Lib.hid hs0
      clear hs0
      unfold rclV at HR2
      generalize hc : Mt.rdCell s = C at *
      have HC := Lib.hid hc
      clear hc
      obtain ⟨G, N, P, T, B⟩ := C
      simp only at HR2 HST HCP hcl
      obtain ⟨v1, h1⟩ : ∃ v, decide (Mt.isCl s) = v := ⟨_, rfl⟩
      obtain ⟨v2, h2⟩ : ∃ v, ((G : Int) != (gen : Int)) = v := ⟨_, rfl⟩
      obtain ⟨v3, h3⟩ : ∃ v, ((N : Int) != (m : Int)) = v := ⟨_, rfl⟩
      obtain ⟨v4, h4⟩ : ∃ v, ((P : Int) != 0) = v := ⟨_, rfl⟩
      obtain ⟨v5, h5⟩ : ∃ v, decide ((E : Int) < (A : Int) + (T : Int)) = v := ⟨_, rfl⟩
      have h5' : decide (E < A + T) = v5 := by rw [← h5]; exact decide_eq_decide.2 (by omega)
      rw [h1] at HR2
      have HV1 := Lib.hid h1
      have hTl : (T : Int) < 65536 := by omega
      have hAl : (A : Int) ≤ 8192 := by omega
      obtain ⟨y, hy⟩ := chain5 v1 v2 v3 v4 v5
      have HV2 := Lib.hid h2
      have HV3 := Lib.hid h3
      have HV4 := Lib.hid h4
      have HV5 := Lib.hid h5
      have HY := Lib.hid hy
      clear h1 hlt hAd hb hEz hom hA hcl
      have hgm : Hid (v1 = true ∧ v2 = false ∧ v3 = false ∧ v4 = false ∧ v5 = false ↔ (Mt.isCl s ∧ G = gen ∧ N = m ∧ P = 0 ∧ T ≤ (L.drop p).length)) := Lib.hid (by
        rw [← HV1.out, ← HV2.out, ← HV3.out, ← HV4.out, ← HV5.out, HCP.out.1]
        rw [decide_eq_true_eq, ne_false_iff, ne_false_iff, decide_eq_false_iff_not]
        have e4 : (((P : Nat) : Int) != 0) = false ↔ P = 0 := ne_false_iff P 0
        rw [e4]
        have e5 : (¬ ((E : Int) < (A : Int) + (T : Int))) ↔ T ≤ z - p := by have := HEE.out; have := HAP.out; have := HLT.out; omega
        rw [e5])
      go_wp2_with fail
      refine (HR1.out).mono ?_
      rintro e w1 ⟨rfl, rfl⟩
      go_wp2_with fail
      refine (HR2.out).mono ?_
      rintro e w2 ⟨rfl, hb2⟩
      have HB2 := Lib.hid (HRA.out.below.trans (hb2.mono HRA.out.below.size))
      have HO2 := Lib.hid (HRA.out.own.below hb2)
      have hcell := heap_alloc_new w2 (.cells #[.int .i64 (G : Int), .int .i64 (N : Int), .int .i64 (P : Int), .int .i64 (T : Int), .string (Mt.str B)] 86)
      have hba := (Below.refl w2.heap.size w2).alloc (Nat.le_refl _) (.cells #[.int .i64 (G : Int), .int .i64 (N : Int), .int .i64 (P : Int), .int .i64 (T : Int), .string (Mt.str B)] 86)
      obtain ⟨c0, c1, c2, c3, c4⟩ := box5_of hcell
      have HCE := Lib.hid hcell
      have HB3 := Lib.hid (HB2.out.trans (hba.mono HB2.out.size))
      have HO3 := Lib.hid (HO2.out.below hba)
      have HBA := Lib.hid hba
      clear hb2 hcell hba
      go_upto_region 7 with fail
      have HZ3 : Hid (w2.heap.size < (w2.alloc (.cells #[.int .i64 (G : Int), .int .i64 (N : Int), .int .i64 (P : Int), .int .i64 (T : Int), .string (Mt.str B)] 86)).heap.size) := Lib.hid (by simp)
      generalize w2.alloc (.cells #[.int .i64 (G : Int), .int .i64 (N : Int), .int .i64 (P : Int), .int .i64 (T : Int), .string (Mt.str B)] 86) = w3 at *
      generalize hKs : w2.heap.size = K at *
      have HKS := Lib.hid hKs
      clear hKs
      have haT : wrap64 ((A : Int) + (T : Int)) = (A : Int) + (T : Int) := by clear h2 h3 h4 h5 h5'; simp only [wrap64]; omega
      cases y with
      | false =>
        have HFN := Lib.hid (HFIN.out (HST.out (fun hx => HY.out.no (hgm.out.2 hx))))
        have hom := HOM.out
        cases hy
        all_goals
          go_wp2_with fail
          subst hom
          exact HPOST.out _ _ _ _ HFN.out HO3.out HB3.out
      | true =>
        have HOK := Lib.hid (hgm.out.1 HY.out.yes)
        have HC0 : Hid ((L.drop p).getD 0 Mt.Cl.zero = ⟨G, N, P, T, B⟩) := Lib.hid HCP.out.2
        cases hy
        go_wp2_with fail
        clear c0 c1 c2 c3 c4 h2 h3 h4 h5 h5' haT
        have HTL : Hid (T ≤ z - p ∧ T ≤ 4095 ∧ 1 ≤ T) := Lib.hid (by
          have h1 := HOK.out.2.2.2.2
          rw [HCP.out.1] at h1
          have h2 := Mt.isCl_parts HOK.out.1
          rw [HC.out] at h2
          have h3 : P < T := h2
          have h4 := HB.out.2.2.2
          omega)
        have HIN0 : Hid ((∀ i (hi : i < (L.drop p).length), i < 0 → Mt.fitC (L.drop p)[i] gen m T i) ∧ Below w3.heap.size w3 w3) := Lib.hid ⟨fun i _ h => absurd h (Nat.not_lt_zero _), Below.refl _ _⟩
        go_loopw [14, 15, 16, 17, 18, 19] (fun bv kv _ _ _ _ wi => ∃ (k : Nat), k ≤ T ∧ kv = .int .i64 (k : Int) ∧ bv = .string (Mt.str (Mt.bodyOf (L.drop p) k)) ∧ Hid ((∀ i (hi : i < (L.drop p).length), i < k → Mt.fitC (L.drop p)[i] gen m T i) ∧ Below w3.heap.size w3 wi)) (fun _ kv _ _ _ _ _ => T - (intOf kv).toNat)
        case atStart => exact ⟨0, Nat.zero_le _, rfl, rfl, HIN0⟩
        case round =>
          obtain ⟨k, hk, rfl, rfl, HIN⟩ := hrel
          have hci := (HIN.out.2.block K HZ3.out).trans HCE.out
          obtain ⟨c0, c1, c2, c3, c4⟩ := box5_of hci
          have HWI := Lib.hid (HB3.out.trans (HIN.out.2.mono HB3.out.size))
          have HOI := Lib.hid (HO3.out.below HIN.out.2)
          have HCI := Lib.hid hci
          clear hci
          by_cases hkt : k < T
          · have hkl : k < (L.drop p).length := by have := HTL.out; rw [HCP.out.1]; omega
            have hAk : A + k < d.lasts.length := by have := HTL.out; have := HAP.out; have := HB.out; have := HLT.out; omega
            obtain ⟨X, hX⟩ : ∃ X, A + k = X := ⟨_, rfl⟩
            have hXi : wrap64 ((A : Int) + (k : Int)) = (X : Int) := by have := HB.out; simp only [wrap64]; omega
            have hlk : (L.drop p)[k] = Mt.rdCell (d.sec X) := by
              rw [List.getElem_drop, HLG.out _ (by rw [List.length_drop] at hkl; omega), ← hX, HAP.out, Nat.add_assoc]
            rw [hX] at hAk
            have d1 : decide (k < T) = true := decide_eq_true hkt
            have d2 : decide ((k : Int) < (T : Int)) = true := decide_eq_true (by omega)
            have q0 := HQ0.out wr HWI.out
            have HR1 : Hid (Calls Tryz.prog 41 #[.pointer (some ⟨g.R, 0, none⟩), .int .i64 ((A : Int) + (k : Int))] wr fun e w' => e = .returned (.tuple #[.string (Mt.str (d.sec X)), .int .i64 0]) ∧ wr = w') := Lib.hid (by
              have h0 := HRD.out X hAk wr HWI.out
              rw [show ((X : Nat) : Int) = (A : Int) + (k : Int) by rw [← hX]; rfl] at h0
              exact h0)
            have HR2 := Lib.hid (HRC.out X hAk wr)
            have HST2 := Lib.hid (fun hn => HFIN.out (Mt.rec_stop2 (gen := gen) (m := m) (P := T) HG.out hkl (by rw [HC0.out]) hkt hlk hn))
            have HBO := Lib.hid (Mt.bodyOf_snoc (L.drop p) k hkl)
            have HBL := Lib.hid (Mt.bodyOf_le (L.drop p) (fun c hc => HLB.out c (List.mem_of_mem_drop hc)) k)
            have HXB := Lib.hid (HLB.out _ (List.mem_of_mem_drop (List.getElem_mem hkl)))
            have HLK := Lib.hid hlk
            rw [hlk] at HBO HXB
            have hcl : (Mt.rdCell (d.sec X)).parts < 65536 := Mt.rdCell_parts _
            have hk95 : (k : Int) ≤ 4095 := by have := HTL.out; omega
            have HKL := Lib.hid hkl
            clear hAk hlk hX
            generalize d.sec X = s2 at *
            unfold rclV at HR2
            generalize hc : Mt.rdCell s2 = C2 at *
            obtain ⟨G2, N2, P2, T2, B2⟩ := C2
            simp only at HR2 HST2 HBO HXB hcl
            obtain ⟨u1, h1⟩ : ∃ v, decide (Mt.isCl s2) = v := ⟨_, rfl⟩
            obtain ⟨u2, h2⟩ : ∃ v, ((G2 : Int) != (gen : Int)) = v := ⟨_, rfl⟩
            obtain ⟨u3, h3⟩ : ∃ v, ((N2 : Int) != (m : Int)) = v := ⟨_, rfl⟩
            obtain ⟨u4, h4⟩ : ∃ v, ((P2 : Int) != (k : Int)) = v := ⟨_, rfl⟩
            obtain ⟨u5, h5⟩ : ∃ v, ((T2 : Int) != (T : Int)) = v := ⟨_, rfl⟩
            rw [h1] at HR2
            obtain ⟨y, hy⟩ := chain5 u1 u2 u3 u4 u5
            have hgm2 : Hid (u1 = true ∧ u2 = false ∧ u3 = false ∧ u4 = false ∧ u5 = false ↔ (Mt.isCl s2 ∧ G2 = gen ∧ N2 = m ∧ P2 = k ∧ T2 = T)) := Lib.hid (by
              rw [← h1, ← h2, ← h3, ← h4, ← h5, decide_eq_true_eq, ne_false_iff, ne_false_iff, ne_false_iff, ne_false_iff])
            have HY2 := Lib.hid hy
            have hsb : (Mt.str (Mt.bodyOf (L.drop p) k)).size ≤ 500000 := by rw [Mt.str_size]; have := HBL.out; have := HTL.out; omega
            have hsx : (Mt.str B2).size ≤ 110 := by rw [Mt.str_size]; exact HXB.out
            have hcat : ¬ (9223372036854775807 < (Mt.str (Mt.bodyOf (L.drop p) k)).size + (Mt.str B2).size) := by omega
            clear h1 hc hcl
            go_wp2_with fail
            with_reducible refine (HR1.out).mono ?_
            rintro e w4 ⟨rfl, rfl⟩
            clear hXi
            go_wp2_with fail
            with_reducible refine (HR2.out).mono ?_
            rintro e w5 ⟨rfl, hb5⟩
            have HB5 := Lib.hid (HIN.out.2.trans (hb5.mono HIN.out.2.size))
            have hci := (hb5.block K (lt_of_block HCI.out)).trans HCI.out
            have hcx := heap_alloc_new w5 (.cells #[.int .i64 (G2 : Int), .int .i64 (N2 : Int), .int .i64 (P2 : Int), .int .i64 (T2 : Int), .string (Mt.str B2)] 86)
            have hba := (Below.refl w5.heap.size w5).alloc (Nat.le_refl _) (.cells #[.int .i64 (G2 : Int), .int .i64 (N2 : Int), .int .i64 (P2 : Int), .int .i64 (T2 : Int), .string (Mt.str B2)] 86)
            have hci2 := (hba.block K (lt_of_block hci)).trans hci
            have HB6 := Lib.hid (HB5.out.trans (hba.mono HB5.out.size))
            clear hb5 hci hba c0 c1 c2 c3 c4
            go_upto_region 15 with fail
            generalize w5.alloc (.cells #[.int .i64 (G2 : Int), .int .i64 (N2 : Int), .int .i64 (P2 : Int), .int .i64 (T2 : Int), .string (Mt.str B2)] 86) = w6 at *
            generalize w5.heap.size = K2 at *
            obtain ⟨c0, c1, c2, c3, c4⟩ := box5_of hci2
            obtain ⟨x0, x1, x2, x3, x4⟩ := box5_of hcx
            clear hci2 hcx
            cases y with
            | false =>
              have HFN := Lib.hid (HST2.out (fun hx => HY2.out.no (hgm2.out.2 hx)))
              have HW6 := Lib.hid (HB3.out.trans (HB6.out.mono HB3.out.size))
              have HO6 := Lib.hid (HO3.out.below HB6.out)
              cases hy
              all_goals
                go_wp2_with fail
                have hom := HOM.out
                subst hom
                exact HPOST.out _ _ _ _ HFN.out HO6.out HW6.out
            | true =>
              have HOK2 := Lib.hid (hgm2.out.1 HY2.out.yes)
              cases hy
              go_wp2_with fail
              go_roundw
              case rel =>
                refine ⟨k + 1, by omega, by go_num, ?_, Lib.hid ⟨fun i hi hik => ?_, HB6.out⟩⟩
                · rw [HBO.out]; exact congrArg Value.string (Mt.str_append _ _)
                · by_cases hik2 : i < k
                  · exact HIN.out.1 i hi hik2
                  · obtain rfl : i = k := by omega
                    rw [HLK.out]
                    exact ⟨HOK2.out.2.1, HOK2.out.2.2.1, HOK2.out.2.2.2.2, HOK2.out.2.2.2.1⟩
              case measure => simp [intOf]; omega
          · obtain rfl : k = T := by omega
            have d1 : decide (k < k) = false := decide_eq_false (by omega)
            have d2 : decide ((k : Int) < (k : Int)) = false := decide_eq_false (by omega)
            have htl := HTL.out
            have hcp : (L.drop p).length = z - p := HCP.out.1
            have hP : ((L.drop p).getD 0 Mt.Cl.zero).parts = k := by rw [HC0.out]
            have hgood : Mt.record (L.drop p) gen m = (Mt.bodyOf (L.drop p) k, k) := by
              have := Mt.record_good (l := L.drop p) (gen := gen) (number := m) (by rw [hP, hcp]; exact htl.1) (fun i hi hik => by rw [hP] at hik ⊢; exact HIN.out.1 i hi hik)
              rw [hP] at this
              exact this
            obtain ⟨f, hf1, hf2⟩ := HRA.out.rest
            obtain ⟨f2, hf3, hf4⟩ := Mt.recordsF_some (gen := gen) (k := m) (l := L.drop p) (by rw [hcp]; omega) (by rw [hgood]; show k ≠ 0; omega) hf1
            rw [hgood] at hf3 hf4
            have HNX : Hid (∃ f, (L.drop (p + k)).length ≤ f ∧ Mt.records L gen = (out ++ [Mt.bodyOf (L.drop p) k]) ++ Mt.recordsF f (L.drop (p + k)) gen (out ++ [Mt.bodyOf (L.drop p) k]).length) := Lib.hid ⟨f2, by rw [← List.drop_drop]; exact hf3, by
              rw [hf2, HOM.out, hf4, List.length_append, List.length_singleton, HOM.out, List.drop_drop]; simp⟩
            have hk2 : w.heap.size ≤ K := by have := HB2.out.size; rw [HKS.out] at this; exact this
            obtain ⟨a3, c3, w7, hrun, hown, hb7, hk7⟩ := own_past (T := 30) (tx := 30) Tryz.underlying30 Tryz.underlying30 HI.out.1 HI.out.2.1 HI.out.2.2.1 HI.out.2.2.2 rfl HO2.out HKS.out (HBA.out.trans (HIN.out.2.mono (by have := HZ3.out; omega))) hk2 (tcs_one _) #[.string (Mt.str (Mt.bodyOf (L.drop p) k))] rfl (by simp [Value.oneCell']) (by rw [HOM.out]; omega) (by rw [HOM.out]; omega)
            rw [HOM.out] at hrun hown
            have hcr := (hk7 K (Nat.le_refl _) (lt_of_block HCI.out)).trans HCI.out
            obtain ⟨x0, x1, x2, x3, x4⟩ := box5_of hcr
            have HO7 := Lib.hid hown
            have HB7 := Lib.hid hb7
            have hAk : wrap64 ((A : Int) + (k : Int)) = ((A + k : Nat) : Int) := by have := HB.out; simp only [wrap64]; omega
            have HAK := Lib.hid hAk
            have HTT := Lib.hid htl
            have HPO : Hid (out.length ≤ p) := Lib.hid HRA.out.less
            clear hown hb7 hk7 hcr hgood hf1 hf2 hf3 hf4 hkt htl hcp hP hk2 hAk d1 d2
            have d1 : decide (k < k) = false := decide_eq_false (by omega)
            have d2 : decide ((k : Int) < (k : Int)) = false := decide_eq_false (by omega)
            go_wp2_with (refine wpList_append_run rfl _ _ 30 30 rfl _ _ rfl rfl hrun ?_)
            go_roundw
            case rel =>
              have ht := HTT.out
              have hlt := HLT.out
              have hap := HAP.out
              have hom := HOM.out
              have hl1 : (out ++ [Mt.bodyOf (L.drop p) k]).length = m + 1 := by rw [List.length_append, List.length_singleton, hom]
              refine ⟨p + k, A + k, out ++ [Mt.bodyOf (L.drop p) k], a3, c3, m + 1, by omega, by omega, hl1, ?_, rfl, Lib.hid ⟨?_, HNX.out, ?_, HWI.out.trans HB7.out⟩⟩
              · first | rw [HAK.out] | go_num
              · rw [hl1, tcs_append]; exact HO7.out
              · rw [hl1]; have := HPO.out; omega
            case measure =>
              have ht := HTT.out
              have hlt := HLT.out
              have hap := HAP.out
              have hee := HEE.out
              have hak := HAK.out
              simp only [intOf, Array.getD_eq_getD_getElem?]
              simp [intOf]
              omega
    · obtain rfl : p = z := by omega
      have d1 : decide (A < E) = false := decide_eq_false (by omega)
      have d2 : decide ((A : Int) < (E : Int)) = false := decide_eq_false (by omega)
      have hfin := HRA.out.fin (.inl (by rw [List.length_drop, HLL.out]; omega))
      have HF := Lib.hid hfin
      have HOM := Lib.hid hom
      clear hb hEz hlt hfin hom hA
      go_wp2_with fail
      have hom := HOM.out
      subst hom
      exact HPOST.out _ _ _ _ HF.out HRA.out.own HRA.out.below
end
end Go.Proofs.YtnioagojiipjlaaGreat
