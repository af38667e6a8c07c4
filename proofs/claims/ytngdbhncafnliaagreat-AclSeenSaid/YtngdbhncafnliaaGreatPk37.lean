/-
  Some texts of one proof, one behind the other.
-/
import Derived.Test.YtngdbhncafnliaaGreatPk9
import Derived.Test.YtngdbhncafnliaaGreatPk27
set_option linter.unusedVariables false
set_option linter.unusedSimpArgs false

/-
  The keys of a name and of all above it; the rules that speak of somebody.
-/
namespace Go.Proofs.YtngdbhncafnliaaGreat
open Go.RowKit

theorem IsDn.dropA {w : World} {a : Option Addr} {cap k : Nat} {d : List (List Mt.Av)} (h : IsDn w (.slice a d.length cap) d) (hk : k ≤ d.length) :
    IsDn w (.slice (a.map fun x => x.add k) (d.length - k) (cap - k)) (d.drop k) ∧ (cap = k → IsDn w (.slice a (d.length - k) (cap - k)) (d.drop k)) := by
  obtain ⟨a1, cap1, h1, h2, h3, h4⟩ := h
  cases h1
  refine ⟨⟨_, _, by rw [List.length_drop], by rw [List.length_drop]; omega, by rw [List.length_drop]; omega, ?_⟩, fun he => ⟨_, _, by rw [List.length_drop], by rw [List.length_drop]; omega, by rw [List.length_drop]; omega, .inl ?_⟩⟩
  · rcases h4 with rfl | ⟨b, off, rfl, h5, h6⟩
    · exact .inl (by simp)
    · refine .inr ⟨b, off + k, ?_, h5, fun i hi => ?_⟩
      · simp only [Option.map_some]; rw [add_off]
      · have hi2 : k + i < d.length := by rw [List.length_drop] at hi; omega
        obtain ⟨x, hx, hr⟩ := h6 (k + i) hi2
        rw [Nat.add_assoc]
        exact ⟨x, hx, by rw [List.getElem_drop]; exact hr⟩
  · exact List.drop_eq_nil_iff.2 (by omega)
theorem IsDn.dropA' {w : World} {a aK : Option Addr} {cap k : Nat} {d : List (List Mt.Av)} (h : IsDn w (.slice a d.length cap) d) (hk : k ≤ d.length) (ha : (if cap = k then a else Option.map (fun x => x.add k) a) = aK) :
    IsDn w (.slice aK (d.length - k) (cap - k)) (d.drop k) := by
  by_cases e : cap = k
  · rw [if_pos e] at ha
    subst ha
    exact (h.dropA hk).2 e
  · rw [if_neg e] at ha
    subst ha
    exact (h.dropA hk).1
/-- The cells of names. -/
def nmc (r : List (List UInt8)) : List Value := r.map fun n => .string (Mt.str n)
theorem nmc_one (r : List (List UInt8)) : ∀ u ∈ nmc r, u.oneCell' = true := by
  intro u hu; simp only [nmc, List.mem_map] at hu; obtain ⟨x, _, rfl⟩ := hu; rfl
theorem Tryz.infoStr22 : (Tryz.prog.info? 9).map (fun i => (i.zero, i.size, i.bytes)) = some (some (.string ByteArray.empty), 1, 16) := by kernel_rfl
theorem Tryz.infoClause : (Tryz.prog.info? 66).map (fun i => (i.zero, i.size, i.bytes)) = some (some (.agg #[.int .i64 0, .string ByteArray.empty, .string ByteArray.empty, .string ByteArray.empty, .int .i64 0, .bool false]), 6, 72) := by kernel_rfl
theorem IsOwn.nmc {base : Nat} {w : World} {v : Value} {r : List (List UInt8)} (h : IsOwn 9 1 base w v r.length (nmc r)) : IsNms w v r := by
  obtain ⟨g, _, hl, h⟩ := h
  rcases h with ⟨h0, rfl⟩ | ⟨off, cap, cur, rfl, h2, h3, h4, h5⟩
  · have : r = [] := List.eq_nil_of_length_eq_zero h0
    subst this
    exact ⟨none, 0, rfl, by simp, Lib.hid fun j hj => absurd hj (by simp)⟩
  · refine ⟨_, cap, rfl, h3, Lib.hid fun j hj => ⟨g, off, rfl, lt_of_block h2, ?_⟩⟩
    rw [cell_of_row w g _ cur 9 (0, 0) h2, h5 j (by simpa [YtngdbhncafnliaaGreat.nmc] using hj)]
    simp [YtngdbhncafnliaaGreat.nmc]
/-- An append whose run is known. -/
theorem oper_append22 {P : Program} {o : Oper} {a : Act} {w : World} {K : Act → World → Prop} {Q : Exit → Act → World → Prop}
    (s x : Operand) (t t' : TypeId) (hop : o.op = Op.call { callee := Callee.builtin Builtin.append, args := #[s, x], argTypes := #[t, t'] })
    (v u : Value) (hs : a.eval s = v) (hx : a.eval x = u) (w0 : World) (hw : w = w0) {v' : Value} {w' : World} (hr : ∀ ty, (Builtin.append_ #[t, t'] ty #[v, u]).run P w0 = .ok v' w')
    (hK : K (a.put o.dst v') w') : Oper.wp P o a w K Q := by
  subst hw
  unfold Oper.wp
  simp [execOp, hop, resolve, invoke, builtin, hs, hx, hr, Result.andThen]
  exact hK
/-- The keys so far. -/
def kysL (d : List (List Mt.Av)) (i : Nat) : List (List UInt8) := (List.range i).map fun j => Mt.kyL (d.drop j)
theorem kysL_len (d : List (List Mt.Av)) (i : Nat) : (kysL d i).length = i := by simp [kysL]
theorem kysL_step (d : List (List Mt.Av)) (i : Nat) : nmc (kysL d (i + 1)) = nmc (kysL d i) ++ (#[.string (Mt.str (Mt.kyL (d.drop i)))] : Array Value).toList := by
  unfold kysL nmc; rw [List.range_succ]; simp
set_option maxRecDepth 100000 in
set_option maxHeartbeats 2000000 in
theorem keys_any {w : World} {v : Value} {d : List (List Mt.Av)} (hv : IsDn w v d) (hl : d.length ≤ 140737488355327) :
    Calls Tryz.prog 50 #[v] w fun e w' => ∃ a n c, e = .returned (.slice a n c) ∧ IsOwn 9 1 w.heap.size w' (.slice a n c) (Mt.keysD d).length (nmc (Mt.keysD d)) ∧ Below w.heap.size w w' := by
  have HV := Lib.hid hv
  obtain ⟨a, cap, rfl, hn63, hcap, -⟩ := hv
  obtain ⟨i0, hi, hz0, hz1, hz2⟩ := info_parts Tryz.infoStr22
  have HI := Lib.hid (And.intro hi (And.intro hz0 (And.intro hz1 hz2)))
  have HN : Hid (∀ i, i ≤ d.length → ∀ aK, (if cap = i then a else Option.map (fun x => x.add i) a) = aK → ∀ u, Below w.heap.size w u → Calls Tryz.prog 23 #[.slice aK (d.length - i) (cap - i)] u fun e w' => e = .returned (textV (Mt.keyD (d.drop i))) ∧ Below u.heap.size u w') :=
    Lib.hid (fun i hi aK haK u hu => norm_any ((HV.out.dropA' hi haK).below hu))
  have HKO : Hid (Mt.okP d = true → d.length ≤ 32 ∧ ∀ i, Mt.keyD (d.drop i) = .ok (Mt.kyL (d.drop i))) := Lib.hid (fun ho => by
    obtain ⟨t, ht⟩ := Mt.okP_iff.1 ho
    exact ⟨(Mt.printD_good ht).1, fun i => Mt.key_ok (Mt.ok_drop i ho)⟩)
  have HKN : Hid (Mt.okP d = false → ∃ e, 0 < e ∧ Mt.keyD d = .error e) := Lib.hid (fun ho => by
    cases hk : Mt.keyD d with
    | error e => exact ⟨e, Mt.key_err hk, rfl⟩
    | ok k => rw [(Mt.ok_key hk).1] at ho; cases ho)
  have HRES : Hid ((Mt.okP d = false → Mt.keysD d = []) ∧ (Mt.okP d = true → Mt.keysD d = kysL d (d.length + 1))) := Lib.hid ⟨Mt.keys_no, Mt.keys_ok⟩
  obtain ⟨R, hR⟩ : ∃ R, Mt.keysD d = R := ⟨_, rfl⟩
  rw [hR] at HRES ⊢
  obtain ⟨O, hO⟩ : ∃ O, Mt.okP d = O := ⟨_, rfl⟩
  rw [hO] at HKO HKN HRES
  obtain ⟨n, hn⟩ : ∃ n, d.length = n := ⟨_, rfl⟩
  rw [hn] at hn63 hcap HN HKO HRES hl ⊢
  have hwr : IntKind.i64.wrap ((n : Int) + 1) = (n : Int) + 1 := by simp only [IntKind.wrap_i64]; omega
  have hwr2 : wrap64 ((n : Int) + 1) = (n : Int) + 1 := by simp only [wrap64]; omega
  clear hi hz0 hz1 hz2 hR hO hn HV
  go_enter Tryz.func50, Tryz.ntmps50
  go_wp2_with fail
  clear hwr hwr2
  go_loopw [10, 3] (fun iv ov wr => ∃ (i : Nat) (a2 : Option Addr) (c2 : Nat), i ≤ n + 1 ∧ iv = .int .i64 (i : Int) ∧ ov = .slice a2 i c2 ∧ (0 < i → O = true) ∧ Hid (IsOwn 9 1 w.heap.size wr (.slice a2 i c2) i (nmc (kysL d i))) ∧ Hid (Below w.heap.size w wr)) (fun iv _ _ => n + 1 - (intOf iv).toNat)
  case atStart => exact ⟨0, none, 0, Nat.zero_le _, rfl, rfl, fun h => absurd h (Nat.lt_irrefl 0), Lib.hid (IsOwn.nil _ _ _ _), Lib.hid (Below.refl _ _)⟩
  case round =>
    obtain ⟨i, a2, c2, hi, rfl, rfl, hpos, HO, HB⟩ := hrel
    by_cases hlt : i < n + 1
    · have e1 : decide ((i : Int) < (n : Int) + 1) = true := decide_eq_true (by omega)
      have e2 : decide (i < n + 1) = true := decide_eq_true hlt
      have i0 : (0 : Int) ≤ (i : Int) := by omega
      have i1 : (i : Int) ≤ (n : Int) := by omega
      have i2 : i ≤ n := by omega
      obtain ⟨aK, haK⟩ : ∃ x, (if cap = i then a else Option.map (fun x => x.add i) a) = x := ⟨_, rfl⟩
      have HC := Lib.hid (HN.out i i2 aK haK _ HB.out)
      cases O with
      | false =>
        have hz : i = 0 := by
          rcases Nat.eq_zero_or_pos i with h | h
          · exact h
          · exact absurd (hpos h) (by decide)
        obtain ⟨er, her, hke⟩ := HKN.out rfl
        have hd0 : Mt.keyD (d.drop i) = .error er := by rw [hz]; exact hke
        rw [hd0] at HC
        unfold textV at HC
        have hei : ((er : Int) != 0) = true := by simp; omega
        have hei2 : ¬ ((er : Int) = 0) := by omega
        have HE : Hid (R = []) := Lib.hid (HRES.out.1 rfl)
        clear hd0 hke hpos hz her
        go_wp2_with fail
        refine (HC.out).mono ?_
        rintro e w2 ⟨rfl, hb⟩
        have HB2 := Lib.hid (HB.out.trans (hb.mono HB.out.size))
        clear hb
        go_wp2_with fail
        all_goals (go_ret; exact ⟨_, _, _, rfl, by rw [HE.out]; exact IsOwn.nil _ _ _ _, HB2.out⟩)
      | true =>
        obtain ⟨h32, hko⟩ := HKO.out rfl
        rw [hko i] at HC
        unfold textV at HC
        have HST := Lib.hid (kysL_step d i)
        obtain ⟨TB, hTB⟩ : ∃ x, Mt.str (Mt.kyL (d.drop i)) = x := ⟨_, rfl⟩
        simp only [hTB] at HC
        rw [hTB] at HST
        clear hTB hko hpos
        go_wp2_with fail
        refine (HC.out).mono ?_
        rintro e w2 ⟨rfl, hb⟩
        have HB2 := Lib.hid (HB.out.trans (hb.mono HB.out.size))
        have HO2 := Lib.hid (HO.out.below hb)
        obtain ⟨a3, c3, w5, hrun, hown, hb5⟩ := own_push (T := 47) (tx := 47) Tryz.underlying47 Tryz.underlying47 HI.out.1 HI.out.2.1 HI.out.2.2.1 HI.out.2.2.2 rfl HO2.out HB2.out.size (nmc_one _) #[.string TB] rfl (by simp [Value.oneCell']) (by omega) (by omega)
        rw [← HST.out] at hown
        have HO5 := Lib.hid hown
        have HB5 := Lib.hid (HB2.out.trans hb5)
        clear hb hown hb5 haK
        go_upto_region 9 with (with_reducible refine oper_append22 (.tmp 22) (.tmp 24) 47 47 ?_ _ _ ?_ ?_ _ ?_ hrun ?_; rfl; simp [go_sem]; simp [go_sem]; with_reducible rfl)
        clear hrun
        go_wp2_with fail
        go_roundw
        case rel => exact ⟨i + 1, a3, c3, by omega, by go_num, rfl, by first | (intros; rfl) | (intros; trivial) | simp, HO5, HB5⟩
        case measure => simp [intOf]; omega
    · obtain rfl : i = n + 1 := by omega
      have e1 : decide (((n + 1 : Nat) : Int) < (n : Int) + 1) = false := decide_eq_false (by omega)
      have e2 : decide (n + 1 < n + 1) = false := decide_eq_false (by omega)
      have e3 : decide ((n : Int) + 1 < (n : Int) + 1) = false := decide_eq_false (by omega)
      have HE : Hid (R = kysL d (n + 1)) := Lib.hid (HRES.out.2 (hpos (by omega)))
      have HLN := Lib.hid (kysL_len d (n + 1))
      go_wp2_with fail
      all_goals (go_ret; exact ⟨_, _, _, rfl, by rw [HE.out, HLN.out]; exact HO.out, HB.out⟩)
end Go.Proofs.YtngdbhncafnliaaGreat

/-
  The rules that speak of somebody, of an entry and of a right.
-/
namespace Go.Proofs.YtngdbhncafnliaaGreat
open Go.RowKit

theorem row6_set {u : World} {b : Nat} {x0 x1 x2 x3 x4 x5 : Value} {T : TypeId} (h : u.heap[b]? = some (.cells #[x0, x1, x2, x3, x4, x5] T)) (v0 v1 v2 v3 v4 v5 : Value) : ((((((u.setCell ⟨b, 0, none⟩ v0).setCell ⟨b, 1, none⟩ v1).setCell ⟨b, 2, none⟩ v2).setCell ⟨b, 3, none⟩ v3).setCell ⟨b, 4, none⟩ v4).setCell ⟨b, 5, none⟩ v5).heap[b]? = some (.cells #[v0, v1, v2, v3, v4, v5] T) :=
  heap_setCell_same _ b 5 _ T v5 (heap_setCell_same _ b 4 _ T v4 (heap_setCell_same _ b 3 _ T v3 (heap_setCell_same _ b 2 _ T v2 (heap_setCell_same _ b 1 _ T v1 (heap_setCell_same u b 0 _ T v0 h)))))
theorem below6_set {B : Nat} {a u : World} {b : Nat} (h : Below B a u) (hb : B ≤ b) (v0 v1 v2 v3 v4 v5 : Value) : Below B a ((((((u.setCell ⟨b, 0, none⟩ v0).setCell ⟨b, 1, none⟩ v1).setCell ⟨b, 2, none⟩ v2).setCell ⟨b, 3, none⟩ v3).setCell ⟨b, 4, none⟩ v4).setCell ⟨b, 5, none⟩ v5) :=
  (((((h.setCell (p := ⟨b, 0, none⟩) hb _).setCell (p := ⟨b, 1, none⟩) hb _).setCell (p := ⟨b, 2, none⟩) hb _).setCell (p := ⟨b, 3, none⟩) hb _).setCell (p := ⟨b, 4, none⟩) hb _).setCell (p := ⟨b, 5, none⟩) hb _
theorem box6_frozen {w : World} {b : Nat} {v0 v1 v2 v3 v4 v5 : Value} {T : TypeId} (h : w.heap[b]? = some (.cells #[v0, v1, v2, v3, v4, v5] T)) :
    w.frozen? ⟨b, 0, none⟩ = false ∧ w.frozen? ⟨b, 1, none⟩ = false ∧ w.frozen? ⟨b, 2, none⟩ = false ∧ w.frozen? ⟨b, 3, none⟩ = false ∧ w.frozen? ⟨b, 4, none⟩ = false ∧ w.frozen? ⟨b, 5, none⟩ = false :=
  ⟨frozen_of_row _ _ 0 _ _ h, frozen_of_row _ _ 1 _ _ h, frozen_of_row _ _ 2 _ _ h, frozen_of_row _ _ 3 _ _ h, frozen_of_row _ _ 4 _ _ h, frozen_of_row _ _ 5 _ _ h⟩
theorem Mt.filt_step (p : Mt.Ru → Bool) {l : List Mt.Ru} {i : Nat} (h : i < l.length) : (p l[i] = true → (l.take (i + 1)).filter p = (l.take i).filter p ++ [l[i]]) ∧ (p l[i] = false → (l.take (i + 1)).filter p = (l.take i).filter p) := by
  rw [List.take_succ_eq_append_getElem h, List.filter_append]
  exact ⟨fun hp => by simp [hp], fun hp => by simp [hp]⟩
set_option maxRecDepth 100000 in
theorem about_nil (v1 v2 : Value) (k : Int) (w : World) : Calls Tryz.prog 30 #[.pointer none, v1, v2, .int .i64 k] w fun e w' => e = .returned (.slice none 0 0) ∧ Below w.heap.size w w' := by
  go_enter Tryz.func30, Tryz.ntmps30
  go_wp2_with fail
  all_goals (go_ret; exact ⟨rfl, Below.refl _ _⟩)
set_option maxRecDepth 100000 in
set_option maxHeartbeats 4000000 in
theorem about_any {w : World} {p : Nat} {cv v1 v2 : Value} {cs : List Mt.Ru} {d1 d2 : List (List Mt.Av)} {right : Int} (hp : w.heap[p]? = some (.cells #[cv] 64)) (hc : IsRus w cv cs) (hcl : cs.length * 72 ≤ 140737488355328) (h1 : IsDn w v1 d1) (h2 : IsDn w v2 d2) (hl1 : d1.length ≤ 140737488355327) (hl2 : d2.length ≤ 140737488355327) :
    Calls Tryz.prog 30 #[.pointer (some ⟨p, 0, none⟩), v1, v2, .int .i64 right] w fun e w' => ∃ a n c, e = .returned (.slice a n c) ∧ IsOwn 66 6 w.heap.size w' (.slice a n c) (Mt.aboutA cs d1 d2 right).length (ruCells (Mt.aboutA cs d1 d2 right)) ∧ Below w.heap.size w w' := by
  have hpl := lt_of_block hp
  have HPB : Hid (∀ u, Below w.heap.size w u → u.cell? ⟨p, 0, none⟩ = some cv) := Lib.hid (fun u hu => by
    rw [cell_of_row _ _ _ _ _ _ ((hu.block p hpl).trans hp)]; rfl)
  have HR := Lib.hid (isRight_any right w)
  have HK1 := Lib.hid (fun (u : World) (hb : Below w.heap.size w u) => keys_any (h1.below hb) hl1)
  have HK2 := Lib.hid (fun (u : World) (hb : Below w.heap.size w u) => keys_any (h2.below hb) hl2)
  have HKL1 := Lib.hid (Mt.keys_len d1)
  have HKL2 := Lib.hid (Mt.keys_len d2)
  obtain ⟨i0, hi, hz0, hz1, hz2⟩ := info_parts Tryz.infoClause
  have HI := Lib.hid (And.intro hi (And.intro hz0 (And.intro hz1 hz2)))
  obtain ⟨RES, hRES⟩ : ∃ R, Mt.aboutA cs d1 d2 right = R := ⟨_, rfl⟩
  have hres := hRES
  unfold Mt.aboutA Mt.goodA at hres
  rw [hRES]
  have HO1 : Hid ((Mt.okP d1 = false → Mt.keysD d1 = []) ∧ (Mt.okP d1 = true → Mt.keysD d1 ≠ [])) := Lib.hid ⟨Mt.keys_no, fun h e => by have := Mt.keys_len_ok h; rw [e] at this; simp at this⟩
  have HO2 : Hid ((Mt.okP d2 = false → Mt.keysD d2 = []) ∧ (Mt.okP d2 = true → Mt.keysD d2 ≠ [])) := Lib.hid ⟨Mt.keys_no, fun h e => by have := Mt.keys_len_ok h; rw [e] at this; simp at this⟩
  obtain ⟨RB, hRB⟩ : ∃ b, Mt.rightB right = b := ⟨_, rfl⟩
  obtain ⟨B1, hB1⟩ : ∃ b, Mt.okP d1 = b := ⟨_, rfl⟩
  obtain ⟨B2, hB2⟩ : ∃ b, Mt.okP d2 = b := ⟨_, rfl⟩
  rw [hRB] at HR
  rw [hB1] at HO1
  rw [hB2] at HO2
  rw [hRB, hB1, hB2] at hres
  have HRES := Lib.hid hres
  have HKS1 : Hid (B1 = true → (Mt.keysD d1).length ≤ 8796093022208) := Lib.hid (fun h => by
    obtain ⟨t, ht⟩ := Mt.okP_iff.1 (hB1.trans h)
    have := Mt.keys_len d1; have := (Mt.printD_good ht).1; omega)
  have HKS2 : Hid (B2 = true → (Mt.keysD d2).length ≤ 8796093022208) := Lib.hid (fun h => by
    obtain ⟨t, ht⟩ := Mt.okP_iff.1 (hB2.trans h)
    have := Mt.keys_len d2; have := (Mt.printD_good ht).1; omega)
  generalize Mt.keysD d1 = KS1 at *
  generalize Mt.keysD d2 = KS2 at *
  have HC := Lib.hid hc
  obtain ⟨ca, cc, rfl, hcc, HCS⟩ := hc
  obtain ⟨m, hm⟩ : ∃ m, cs.length = m := ⟨_, rfl⟩
  have HM := Lib.hid hm
  rw [hm] at hcc hcl HPB
  clear hp hpl hi hz0 hz1 hz2 hRES hres hRB hB1 hB2 h1 h2 hm HC
  have p0 := HPB.out w (Below.refl _ _)
  cases RB with
  | false =>
    have HE : Hid (RES = []) := Lib.hid (by rw [← HRES.out]; rfl)
    go_enter Tryz.func30, Tryz.ntmps30
    go_wp2_with fail
    refine (HR.out).mono ?_
    rintro e w2 ⟨rfl, hb⟩
    have HB2 := Lib.hid hb
    clear hb
    go_wp2_with fail
    all_goals (go_ret; exact ⟨_, _, _, rfl, by rw [HE.out]; exact IsOwn.nil _ _ _ _, HB2.out⟩)
  | true =>
  go_enter Tryz.func30, Tryz.ntmps30
  go_wp2_with fail
  refine (HR.out).mono ?_
  rintro e w2 ⟨rfl, hb⟩
  have HB2 := Lib.hid hb
  clear hb
  go_wp2_with fail
  refine (HK1.out _ HB2.out).mono ?_
  rintro e w3 ⟨ka1, kn1, kc1, rfl, hk1, hb⟩
  have HB3 := Lib.hid (HB2.out.trans (hb.mono HB2.out.size))
  have HN1 := Lib.hid (IsOwn.nmc hk1)
  have hn1 : Hid (kn1 = KS1.length) := Lib.hid (by obtain ⟨a, c, e, -⟩ := HN1.out; injection e)
  clear hb hk1
  go_wp2_with fail
  refine (HK2.out _ HB3.out).mono ?_
  rintro e w4 ⟨ka2, kn2, kc2, rfl, hk2, hb⟩
  have HB4 := Lib.hid (HB3.out.trans (hb.mono HB3.out.size))
  have HN2 := Lib.hid (IsOwn.nmc hk2)
  have HN14 := Lib.hid (HN1.out.below hb)
  have hn2 : Hid (kn2 = KS2.length) := Lib.hid (by obtain ⟨a, c, e, -⟩ := HN2.out; injection e)
  clear hb hk2 HN1
  cases B1 with
  | false =>
    have hz : kn1 = 0 := by rw [hn1.out, HO1.out.1 rfl]; rfl
    have HE : Hid (RES = []) := Lib.hid (by rw [← HRES.out]; rfl)
    subst hz
    clear hn1 hn2
    go_wp2_with fail
    all_goals (go_ret; exact ⟨_, _, _, rfl, by rw [HE.out]; exact IsOwn.nil _ _ _ _, HB4.out⟩)
  | true =>
  have hnz1 : kn1 ≠ 0 := by
    rw [hn1.out]; intro h; exact HO1.out.2 rfl (List.eq_nil_of_length_eq_zero h)
  have hd1 : ((kn1 : Int) == 0) = false := by simp; omega
  have hd2 : decide ((kn1 : Int) = 0) = false := decide_eq_false (by omega)
  have hf1 : decide (kn1 = 0) = false := decide_eq_false hnz1
  have hg1 : (kn1 == 0) = false := by simpa using hnz1
  have hh1 : ¬ kn1 = 0 := hnz1
  cases B2 with
  | false =>
    have hz : kn2 = 0 := by rw [hn2.out, HO2.out.1 rfl]; rfl
    have HE : Hid (RES = []) := Lib.hid (by rw [← HRES.out]; rfl)
    subst hz
    clear hn1 hn2
    go_wp2_with fail
    all_goals (go_ret; exact ⟨_, _, _, rfl, by rw [HE.out]; exact IsOwn.nil _ _ _ _, HB4.out⟩)
  | true =>
  have hnz2 : kn2 ≠ 0 := by
    rw [hn2.out]; intro h; exact HO2.out.2 rfl (List.eq_nil_of_length_eq_zero h)
  have hd3 : ((kn2 : Int) == 0) = false := by simp; omega
  have hd4 : decide ((kn2 : Int) = 0) = false := decide_eq_false (by omega)
  have hf2 : decide (kn2 = 0) = false := decide_eq_false hnz2
  have hg2 : (kn2 == 0) = false := by simpa using hnz2
  have hh2 : ¬ kn2 = 0 := hnz2
  have HNE := Lib.hid (And.intro (HO1.out.2 rfl) (HO2.out.2 rfl))
  have HE : Hid (RES = cs.filter (fun c => Mt.aboutP c KS1 KS2 right)) := Lib.hid (by rw [← HRES.out]; rfl)
  have HKA := Lib.hid (HKS1.out rfl)
  have HKB := Lib.hid (HKS2.out rfl)
  clear p0
  have p0 := HPB.out w4 HB4.out
  go_wp2_with fail
  go_loopw [38, 11] (fun iv ov wr => ∃ (i : Nat) (a2 : Option Addr) (n2 c2 : Nat), i ≤ m ∧ iv = .int .i64 (i : Int) ∧ ov = .slice a2 n2 c2 ∧ n2 ≤ i ∧ Hid (((cs.take i).filter (fun c => Mt.aboutP c KS1 KS2 right)).length = n2) ∧ Hid (IsOwn 66 6 w4.heap.size wr (.slice a2 n2 c2) n2 (ruCells ((cs.take i).filter (fun c => Mt.aboutP c KS1 KS2 right)))) ∧ Hid (Below w4.heap.size w4 wr)) (fun iv _ _ => m - (intOf iv).toNat)
  case atStart => exact ⟨0, none, 0, 0, Nat.zero_le _, rfl, rfl, Nat.le_refl _, Lib.hid (by simp), Lib.hid (by simpa [ruCells] using IsOwn.nil 66 6 w4.heap.size w4), Lib.hid (Below.refl _ _)⟩
  case round =>
    obtain ⟨i, a2, n2, c2, hi, rfl, rfl, hni, HLN, HO, HW⟩ := hrel
    have HB := Lib.hid (HB4.out.trans (HW.out.mono HB4.out.size))
    by_cases hlt : i < m
    · have e1 : decide ((i : Int) < (m : Int)) = true := decide_eq_true (by omega)
      have e2 : decide (i < m) = true := decide_eq_true hlt
      have i0 : (0 : Int) ≤ (i : Int) := by omega
      have i1 : (i : Int) < (m : Int) := by omega
      have hil : i < cs.length := by rw [HM.out]; exact hlt
      obtain ⟨b, off, e0, hbl, h0, h1, h2, h3, h4, h5⟩ := HCS.out i hil
      subst e0
      have x0 := (HB.out.cell (p := ⟨b, off + i * 6, none⟩) hbl).trans h0
      have x1 := (HB.out.cell (p := ⟨b, off + i * 6 + 1, none⟩) hbl).trans h1
      have x2 := (HB.out.cell (p := ⟨b, off + i * 6 + 2, none⟩) hbl).trans h2
      have x3 := (HB.out.cell (p := ⟨b, off + i * 6 + 3, none⟩) hbl).trans h3
      have x4 := (HB.out.cell (p := ⟨b, off + i * 6 + 4, none⟩) hbl).trans h4
      have x5 := (HB.out.cell (p := ⟨b, off + i * 6 + 5, none⟩) hbl).trans h5
      have HFS := Lib.hid (Mt.filt_step (fun c => Mt.aboutP c KS1 KS2 right) hil)
      obtain ⟨c, hc⟩ : ∃ c, cs[i] = c := ⟨_, rfl⟩
      rw [hc] at x0 x1 x2 x3 x4 x5 HFS
      have HCC := Lib.hid (fun (u : World) (hu : IsNms u (.slice ka2 kn2 kc2) KS2) => containsS_any hu c.wh HKB.out)
      have HIO := Lib.hid (fun (u : World) (hu1 : IsNms u (.slice ka1 kn1 kc1) KS1) (hu2 : IsNms u (.slice ka2 kn2 kc2) KS2) => isOf_any c hu1 hu2 HNE.out.1 HNE.out.2 HKA.out)
      have HPP : Hid (Mt.aboutP c KS1 KS2 right = (Mt.bitB c.rights right && decide (c.wh ∈ KS2) && Mt.isOfA c KS1 KS2)) := Lib.hid rfl
      have HRC : Hid (ruCells [c] = ruVs c) := Lib.hid (by simp [ruCells])
      have HVV : Hid (ruVs c = [.int .i64 c.who, .string (Mt.str c.dn), .string (Mt.str c.wh), .string (Mt.str c.att), .int .i64 c.rights, .bool c.allow]) := Lib.hid rfl
      have hrv : ruV c = .agg #[.int .i64 c.who, .string (Mt.str c.dn), .string (Mt.str c.wh), .string (Mt.str c.att), .int .i64 c.rights, .bool c.allow] := rfl
      rw [hrv] at HIO
      obtain ⟨K1, hK1⟩ : ∃ K, decide (c.wh ∈ KS2) = K := ⟨_, rfl⟩
      obtain ⟨K2, hK2⟩ : ∃ K, Mt.isOfA c KS1 KS2 = K := ⟨_, rfl⟩
      rw [hK1] at HCC HPP
      rw [hK2] at HIO HPP
      have hbit : Mt.bitB c.rights right = decide (Mt.andI c.rights right ≠ 0) := rfl
      obtain ⟨WB, hWB⟩ : ∃ x, Mt.str c.wh = x := ⟨_, rfl⟩
      obtain ⟨DB, hDB⟩ : ∃ x, Mt.str c.dn = x := ⟨_, rfl⟩
      obtain ⟨AB, hAB⟩ : ∃ x, Mt.str c.att = x := ⟨_, rfl⟩
      obtain ⟨ri, hri⟩ : ∃ x, c.rights = x := ⟨_, rfl⟩
      obtain ⟨wh, hwh⟩ : ∃ x, c.who = x := ⟨_, rfl⟩
      obtain ⟨al, hal⟩ : ∃ x, c.allow = x := ⟨_, rfl⟩
      rw [hWB] at x2 HCC HIO HVV
      rw [hDB] at x1 HIO HVV
      rw [hAB] at x3 HIO HVV
      rw [hri] at x4 HIO HVV HPP hbit
      rw [hwh] at x0 HIO HVV
      rw [hal] at x5 HIO HVV
      obtain ⟨AI, hAI⟩ : ∃ x, Mt.andI ri right = x := ⟨_, rfl⟩
      have hbits : bits BinOp.and IntKind.i64 ri right = AI := by rw [← hAI]; rfl
      rw [hAI] at hbit
      rw [hbit] at HPP
      obtain ⟨w5, hw5⟩ : ∃ u, wr.alloc (.cells #[.int .i64 wh, .string DB, .string WB, .string AB, .int .i64 ri, .bool al] 66) = u := ⟨_, rfl⟩
      have hka : w5.heap[wr.heap.size]? = some (.cells #[.int .i64 wh, .string DB, .string WB, .string AB, .int .i64 ri, .bool al] 66) := by rw [← hw5]; exact heap_alloc_new wr _
      have hba : Below wr.heap.size wr w5 := by rw [← hw5]; exact (Below.refl _ wr).alloc (Nat.le_refl _) _
      have HKR := Lib.hid hka
      have HBW := Lib.hid hba
      clear hbl h0 h1 h2 h3 h4 h5 hc hK1 hK2 hbit hWB hDB hAB hri hwh hal hAI hka hba hil hrv
      go_upto_region 10 with fail
      clear x0 x1 x2 x3 x4 x5
      have HW5 := Lib.hid (HW.out.trans (HBW.out.mono HW.out.size))
      have HB5 := Lib.hid (HB.out.trans (HBW.out.mono HB.out.size))
      have HO5 := Lib.hid (HO.out.below HBW.out)
      have HQ : Hid (∀ u, Below w5.heap.size w5 u → u.heap[wr.heap.size]? = some (.cells #[.int .i64 wh, .string DB, .string WB, .string AB, .int .i64 ri, .bool al] 66)) := Lib.hid (fun u hu => (hu.block _ (lt_of_block HKR.out)).trans HKR.out)
      obtain ⟨q0, q1, q2, q3, q4, q5⟩ := box6_of HKR.out
      by_cases hA0 : AI = 0
      · subst hA0
        have HF : Hid (Mt.aboutP c KS1 KS2 right = false) := Lib.hid (by rw [HPP.out]; rfl)
        have HFE := Lib.hid (HFS.out.2 HF.out)
        have HL2 : Hid (((cs.take (i + 1)).filter (fun c => Mt.aboutP c KS1 KS2 right)).length = n2) := Lib.hid (by rw [HFE.out]; exact HLN.out)
        have HO6 : Hid (IsOwn 66 6 w4.heap.size w5 (.slice a2 n2 c2) n2 (ruCells ((cs.take (i + 1)).filter (fun c => Mt.aboutP c KS1 KS2 right)))) := Lib.hid (by rw [HFE.out]; exact HO5.out)
        go_wp2_with fail
        go_roundw
        case rel => exact ⟨i + 1, a2, n2, c2, by omega, by go_num, rfl, by omega, HL2, HO6, HW5⟩
        case measure => simp [intOf]; omega
      · have hb1 : (AI != 0) = true := by simpa using hA0
        have hb2 : decide (AI = 0) = false := decide_eq_false hA0
        have hb3 : (AI == 0) = false := by simpa using hA0
        have HPQ : Hid (Mt.aboutP c KS1 KS2 right = (K1 && K2)) := Lib.hid (by rw [HPP.out, decide_eq_true hA0]; rfl)
        have HN25 := Lib.hid (HN2.out.below (HW5.out.mono (Nat.le_refl _)))
        have HN15 := Lib.hid (HN14.out.below (HW5.out.mono (Nat.le_refl _)))
        have HC5 := Lib.hid (HCC.out _ HN25.out)
        clear hA0
        go_wp2_with fail
        refine (HC5.out).mono ?_
        rintro e w6 ⟨rfl, hb⟩
        have HW6 := Lib.hid (HW5.out.trans (hb.mono HW5.out.size))
        have HO6 := Lib.hid (HO5.out.below hb)
        have HY6 := Lib.hid hb
        have HN26 := Lib.hid (HN25.out.below hb)
        have HN16 := Lib.hid (HN15.out.below hb)
        clear hb q0 q1 q2 q3 q4 q5
        cases K1 with
        | false =>
          have HFE := Lib.hid (HFS.out.2 (by rw [HPQ.out]; rfl))
          have HL2 : Hid (((cs.take (i + 1)).filter (fun c => Mt.aboutP c KS1 KS2 right)).length = n2) := Lib.hid (by rw [HFE.out]; exact HLN.out)
          have HO7 : Hid (IsOwn 66 6 w4.heap.size w6 (.slice a2 n2 c2) n2 (ruCells ((cs.take (i + 1)).filter (fun c => Mt.aboutP c KS1 KS2 right)))) := Lib.hid (by rw [HFE.out]; exact HO6.out)
          go_wp2_with fail
          go_roundw
          case rel => exact ⟨i + 1, a2, n2, c2, by omega, by go_num, rfl, by omega, HL2, HO7, HW6⟩
          case measure => simp [intOf]; omega
        | true =>
          obtain ⟨q0, q1, q2, q3, q4, q5⟩ := box6_of (HQ.out _ HY6.out)
          have HI6 := Lib.hid (HIO.out _ HN16.out HN26.out)
          go_wp2_with fail
          refine (HI6.out).mono ?_
          rintro e w7 ⟨rfl, hb⟩
          have HW7 := Lib.hid (HW6.out.trans (hb.mono HW6.out.size))
          have HO7 := Lib.hid (HO6.out.below hb)
          have HY7 := Lib.hid (HY6.out.trans (hb.mono HY6.out.size))
          clear hb q0 q1 q2 q3 q4 q5
          cases K2 with
          | false =>
            have HFE := Lib.hid (HFS.out.2 (by rw [HPQ.out]; rfl))
            have HL2 : Hid (((cs.take (i + 1)).filter (fun c => Mt.aboutP c KS1 KS2 right)).length = n2) := Lib.hid (by rw [HFE.out]; exact HLN.out)
            have HO8 : Hid (IsOwn 66 6 w4.heap.size w7 (.slice a2 n2 c2) n2 (ruCells ((cs.take (i + 1)).filter (fun c => Mt.aboutP c KS1 KS2 right)))) := Lib.hid (by rw [HFE.out]; exact HO7.out)
            go_wp2_with fail
            go_roundw
            case rel => exact ⟨i + 1, a2, n2, c2, by omega, by go_num, rfl, by omega, HL2, HO8, HW7⟩
            case measure => simp [intOf]; omega
          | true =>
            have HFE := Lib.hid (HFS.out.1 (by rw [HPQ.out]; rfl))
            have HL2 : Hid (((cs.take (i + 1)).filter (fun c => Mt.aboutP c KS1 KS2 right)).length = n2 + 1) := Lib.hid (by rw [HFE.out, List.length_append, HLN.out]; rfl)
            obtain ⟨q0, q1, q2, q3, q4, q5⟩ := box6_of (HQ.out _ HY7.out)
            obtain ⟨a3, c3, w8, hrun, hown, hb8⟩ := own_push (T := 62) (tx := 62) Tryz.underlying62 Tryz.underlying62 HI.out.1 HI.out.2.1 HI.out.2.2.1 HI.out.2.2.2 rfl HO7.out HW7.out.size (ruCells_one _) #[.int .i64 wh, .string DB, .string WB, .string AB, .int .i64 ri, .bool al] rfl (by simp [Value.oneCell']) (by omega) (by omega)
            have HO8 : Hid (IsOwn 66 6 w4.heap.size w8 (.slice a3 (n2 + 1) c3) (n2 + 1) (ruCells ((cs.take (i + 1)).filter (fun c => Mt.aboutP c KS1 KS2 right)))) := Lib.hid (by
              rw [HFE.out]
              have e : ruCells ((cs.take i).filter (fun c => Mt.aboutP c KS1 KS2 right) ++ [c]) = ruCells ((cs.take i).filter (fun c => Mt.aboutP c KS1 KS2 right)) ++ (#[.int .i64 wh, .string DB, .string WB, .string AB, .int .i64 ri, .bool al] : Array Value).toList := by
                have e1 : ruCells ((cs.take i).filter (fun c => Mt.aboutP c KS1 KS2 right) ++ [c]) = ruCells ((cs.take i).filter (fun c => Mt.aboutP c KS1 KS2 right)) ++ ruCells [c] := by unfold ruCells; rw [List.flatMap_append]
                rw [e1, HRC.out, HVV.out]
              rw [e]; exact hown)
            have HW8 := Lib.hid (HW7.out.trans hb8)
            clear hown hb8
            go_upto_region 12 with (with_reducible refine oper_append22 (.tmp 61) (.tmp 63) 62 62 ?_ _ _ ?_ ?_ _ ?_ hrun ?_; rfl; simp [go_sem]; simp [go_sem]; with_reducible rfl)
            clear hrun q0 q1 q2 q3 q4 q5
            go_wp2_with fail
            go_roundw
            case rel => exact ⟨i + 1, a3, n2 + 1, c3, by omega, by go_num, rfl, by omega, HL2, HO8, HW8⟩
            case measure => simp [intOf]; omega
    · obtain rfl : i = m := by omega
      have e1 : decide ((i : Int) < (i : Int)) = false := decide_eq_false (by omega)
      have e2 : decide (i < i) = false := decide_eq_false (by omega)
      have hall : cs.take i = cs := List.take_of_length_le (by rw [HM.out]; exact Nat.le_refl _)
      have HEND : Hid (IsOwn 66 6 w.heap.size wr (.slice a2 n2 c2) RES.length (ruCells RES)) := Lib.hid (by
        have h9 := HO.out
        have h8 := HLN.out
        rw [hall] at h9 h8
        rw [HE.out, h8]
        exact h9.mono HB4.out.size)
      clear hall
      go_wp2_with fail
      all_goals (go_ret; exact ⟨_, _, _, rfl, HEND.out, HB.out⟩)
end Go.Proofs.YtngdbhncafnliaaGreat
