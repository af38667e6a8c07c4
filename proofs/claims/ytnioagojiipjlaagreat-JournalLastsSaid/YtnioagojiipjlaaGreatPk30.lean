/-
  Some texts of one proof, one behind the other.
-/
import Derived.Test.YtnioagojiipjlaaGreatPk28
import Derived.Test.YtnioagojiipjlaaGreatPk29
set_option linter.unusedVariables false
set_option linter.unusedSimpArgs false

/-
  What records comes to: the records at the beginning of a half.
-/
namespace Go.Proofs.YtnioagojiipjlaaGreat
open Go.RowKit

theorem IsOwn.ts {base : Nat} {w : World} {v : Value} {ls : List (List UInt8)} (h : IsOwn 9 1 base w v ls.length (tcs ls)) : IsTs w v ls := by
  obtain ⟨g, _, hl, h⟩ := h
  rcases h with ⟨h0, rfl⟩ | ⟨off, cap, cur, rfl, h2, h3, h4, h5⟩
  · have : ls = [] := List.eq_nil_of_length_eq_zero h0
    subst this
    exact ⟨none, 0, rfl, by simp, .inl rfl⟩
  · refine ⟨_, cap, rfl, h3, .inr ⟨g, off, rfl, lt_of_block h2, fun j hj => ?_⟩⟩
    rw [cell_of_row w g _ cur 9 (0, 0) h2, h5 j (by rw [tcs_length]; exact hj)]
    simp [tcs]
/-- Texts in a row that is new: not below a block. -/
def TsN (B : Nat) (w : World) (v : Value) (ls : List (List UInt8)) : Prop := IsTs w v ls ∧ ∀ a n c, v = .slice (some a) n c → B ≤ a.block
theorem TsN.mono {B B2 : Nat} {w : World} {v : Value} {ls : List (List UInt8)} (h : TsN B w v ls) (hb : B2 ≤ B) : TsN B2 w v ls := ⟨h.1, fun a n c e => Nat.le_trans hb (h.2 a n c e)⟩
theorem TsN.nil (B : Nat) (w : World) : TsN B w (.slice none 0 0) [] := ⟨⟨none, 0, rfl, by simp, .inl rfl⟩, fun a n c e => by cases e⟩
theorem IsOwn.tsn {base : Nat} {w : World} {v : Value} {ls : List (List UInt8)} (h : IsOwn 9 1 base w v ls.length (tcs ls)) : TsN base w v ls := by
  refine ⟨h.ts, fun a n c e => ?_⟩
  obtain ⟨g, hg, hl, h⟩ := h
  rcases h with ⟨h0, rfl⟩ | ⟨off, cap, cur, rfl, h2, h3, h4, h5⟩
  · cases e
  · cases e; exact hg
theorem tcs_one (ls : List (List UInt8)) : ∀ u ∈ tcs ls, u.oneCell' = true := by
  intro u hu
  simp only [tcs, List.mem_map] at hu
  obtain ⟨x, _, rfl⟩ := hu
  rfl
theorem IsCls.drop {w : World} {a aK : Option Addr} {cap k : Nat} {l : List Mt.Cl} (h : IsCls w (.slice a l.length cap) l) (hk : k ≤ l.length) (hc : l.length ≤ cap) (ha : (if cap = k then a else Option.map (fun x => x.add (k * 5)) a) = aK) :
    IsCls w (.slice aK (l.length - k) (cap - k)) (l.drop k) := by
  obtain ⟨a1, cap1, h1, h2, h3⟩ := h
  cases h1
  have hl : (l.drop k).length = l.length - k := List.length_drop
  refine ⟨aK, cap - k, by rw [hl], by omega, ?_⟩
  by_cases he : k = l.length
  · left; rw [he]; simp
  · rcases h3 with h3 | ⟨b, off, h4, h5, h6⟩
    · subst h3; exact absurd (Nat.le_zero.1 (by simpa using hk)) (by simpa using he)
    · rw [if_neg (by omega), h4] at ha
      subst ha
      refine .inr ⟨b, off + k * 5, by simp only [Option.map_some]; rw [add_off], h5, fun j hj => ?_⟩
      have := h6 (k + j) (by omega)
      rw [show off + (k + j) * 5 = off + k * 5 + j * 5 by omega] at this
      rw [List.getElem_drop]
      exact this
theorem Mt.recordsF_none {f : Nat} {l : List Mt.Cl} {gen k : Nat} (h : l.length = 0 ∨ (Mt.record l gen k).2 = 0) : Mt.recordsF f l gen k = [] := by
  cases f with
  | zero => rfl
  | succ f => unfold Mt.recordsF; rw [if_pos h]
theorem Mt.recordsF_some {f : Nat} {l : List Mt.Cl} {gen k : Nat} (h : 0 < l.length) (h2 : (Mt.record l gen k).2 ≠ 0) (hf : l.length ≤ f) : ∃ g, (l.drop (Mt.record l gen k).2).length ≤ g ∧ Mt.recordsF f l gen k = (Mt.record l gen k).1 :: Mt.recordsF g (l.drop (Mt.record l gen k).2) gen (k + 1) := by
  cases f with
  | zero => omega
  | succ f =>
    refine ⟨f, ?_, ?_⟩
    · rw [List.length_drop]; omega
    · conv => lhs; unfold Mt.recordsF
      rw [if_neg (by rintro (h3 | h3); omega; exact h2 h3)]
theorem Mt.record_le {l : List Mt.Cl} {gen k : Nat} : (Mt.record l gen k).2 ≤ l.length := by
  unfold Mt.record
  split
  · exact Nat.zero_le _
  · split
    · show (l.getD 0 Mt.Cl.zero).parts ≤ _; omega
    · exact Nat.zero_le _
/-- Where records stands. -/
structure RecAt (w wr : World) (gen : Nat) (ls l : List Mt.Cl) (out : List (List UInt8)) (vh vo : Value) : Prop where
  cls : IsCls w vh l
  own : IsOwn 9 1 w.heap.size wr vo out.length (tcs out)
  rest : ∃ f, l.length ≤ f ∧ Mt.records ls gen = out ++ Mt.recordsF f l gen out.length
  less : l.length + out.length ≤ ls.length
  body : ∀ c ∈ l, c.body.length ≤ 110
  below : Below w.heap.size w wr
section
variable {w u : World}
theorem RecAt.fin {wr : World} {gen : Nat} {ls l : List Mt.Cl} {out : List (List UInt8)} {vh vo : Value} (h : RecAt w wr gen ls l out vh vo) (h0 : l.length = 0 ∨ (Mt.record l gen out.length).2 = 0) : Mt.records ls gen = out := by
  obtain ⟨f, _, h2⟩ := h.rest
  rw [h2, Mt.recordsF_none h0, List.append_nil]
set_option maxRecDepth 100000 in
set_option maxHeartbeats 1000000 in
theorem records_new {v : Value} {ls : List Mt.Cl} (hv : IsCls w v ls) (hn : ls.length ≤ 8192) (hb : ∀ c ∈ ls, c.body.length ≤ 110) (gen : Nat) :
    Calls Tryz.prog 66 #[v, .int .u64 (gen : Int)] w fun e w' => ∃ x, e = .returned x ∧ TsN w.heap.size w' x (Mt.records ls gen) ∧ Below w.heap.size w w' := by
  obtain ⟨i0, hi, hz0, hz1, hz2⟩ := info_parts Tryz.infoStr6
  have HI := Lib.hid (And.intro hi (And.intro hz0 (And.intro hz1 hz2)))
  have HN := Lib.hid hn
  have HR0 : Hid (RecAt w w gen ls ls [] v (.slice none 0 0)) := Lib.hid ⟨hv, IsOwn.nil _ _ _ _, ⟨ls.length, Nat.le_refl _, rfl⟩, by simp, hb, Below.refl _ _⟩
  obtain ⟨a0, c0, rfl, -, -⟩ := hv
  have HPOST : Hid (∀ (x : Value) (w' : World), TsN w.heap.size w' x (Mt.records ls gen) → Below w.heap.size w w' → (fun (e : Ending) (w' : World) => ∃ x, e = .returned x ∧ TsN w.heap.size w' x (Mt.records ls gen) ∧ Below w.heap.size w w') (.returned x) w') := Lib.hid (fun x w' h1 h2 => ⟨x, rfl, h1, h2⟩)
  generalize hPP : (fun (e : Ending) (w' : World) => ∃ x, e = .returned x ∧ TsN w.heap.size w' x (Mt.records ls gen) ∧ Below w.heap.size w w') = PP at *
  clear hPP hb hi hz0 hz1 hz2 hn
  go_enter Tryz.func66, Tryz.ntmps66
  go_wp2_with fail
  go_loopw [0, 5, 6, 7] (fun vh vo _ _ wr => ∃ (l : List Mt.Cl) (out : List (List UInt8)) (a : Option Addr) (c : Nat) (a2 : Option Addr) (c2 : Nat), vh = .slice a l.length c ∧ vo = .slice a2 out.length c2 ∧ Hid (RecAt w wr gen ls l out (.slice a l.length c) (.slice a2 out.length c2)))
    (fun vh _ _ _ _ => match vh with | .slice _ n _ => n | _ => 0)
  case atStart => exact ⟨ls, [], a0, c0, none, 0, rfl, rfl, HR0⟩
  case round =>
    obtain ⟨l, out, a, c, a2, c2, rfl, rfl, HRA⟩ := hrel
    obtain ⟨n, hln⟩ : ∃ n, l.length = n := ⟨_, rfl⟩
    obtain ⟨m, hom⟩ : ∃ m, out.length = m := ⟨_, rfl⟩
    have hnm : n + m ≤ 8192 := by have := HRA.out.less; have := HN.out; omega
    have HCLS := Lib.hid HRA.out.cls
    have HOWN := Lib.hid HRA.out.own
    have HLN := Lib.hid hln
    have HOM := Lib.hid hom
    rw [hln] at HCLS ⊢
    rw [hom] at HOWN ⊢
    by_cases h0 : n = 0
    · have HF := Lib.hid (HRA.out.fin (.inl (hln.trans h0)))
      have hd : decide (0 < n) = false := decide_eq_false (by omega)
      have hd2 : decide ((0 : Int) < (n : Int)) = false := decide_eq_false (by omega)
      clear h0 hln hom
      go_wp2_with fail
      have hts : TsN w.heap.size wr (.slice a2 m c2) out := IsOwn.tsn (base := w.heap.size) (by rw [HOM.out]; exact HOWN.out)
      exact HPOST.out _ _ (by rw [HF.out]; exact hts) HRA.out.below
    · have hd : decide (0 < n) = true := decide_eq_true (by omega)
      have hd2 : decide ((0 : Int) < (n : Int)) = true := decide_eq_true (by omega)
      have hwm : IntKind.u64.wrap (m : Int) = (m : Int) := Mt.u64_nat m (by omega)
      have HREC := Lib.hid (record_any (w := wr) (HRA.out.cls.below HRA.out.below) (by omega) (by omega) HRA.out.body gen m)
      rw [hln] at HREC
      have HLE := Lib.hid (show (Mt.record l gen m).2 ≤ n by rw [← hln]; exact Mt.record_le)
      have HFI := Lib.hid (show (Mt.record l gen m).2 = 0 → Mt.records ls gen = out from fun h => HRA.out.fin (.inr (by rw [hom]; exact h)))
      have HSO := Lib.hid (show (Mt.record l gen m).2 ≠ 0 → ∃ f, (l.drop (Mt.record l gen m).2).length ≤ f ∧ Mt.records ls gen = (out ++ [(Mt.record l gen m).1]) ++ Mt.recordsF f (l.drop (Mt.record l gen m).2) gen (out ++ [(Mt.record l gen m).1]).length from fun h => by
        obtain ⟨f, h1, h2⟩ := HRA.out.rest
        rw [hom] at h2
        obtain ⟨g, h3, h4⟩ := Mt.recordsF_some (gen := gen) (k := m) (by omega) h h1
        exact ⟨g, h3, by rw [h2, h4, List.length_append, List.length_singleton, hom]; simp⟩)
      clear hln hom
      go_wp2_with fail
      refine (HREC.out).mono ?_
      rintro e w2 ⟨rfl, hb⟩
      have HB2 := Lib.hid hb
      clear hb
      obtain ⟨R, K, hRK⟩ : ∃ R K, Mt.record l gen m = (R, K) := ⟨_, _, rfl⟩
      rw [hRK] at HLE HFI HSO ⊢
      simp only at HLE HFI HSO ⊢
      have hKn := HLE.out
      clear hRK
      by_cases hK : K = 0
      · have HF := Lib.hid (HFI.out hK)
        have hdk : ((K : Int) == 0) = true := by rw [beq_iff_eq]; omega
        clear hK
        go_wp2_with fail
        have hts : TsN w.heap.size w2 (.slice a2 m c2) out := IsOwn.tsn (base := w.heap.size) (by rw [HOM.out]; exact HOWN.out.below HB2.out)
        exact HPOST.out _ _ (by rw [HF.out]; exact hts) (HRA.out.below.trans (HB2.out.mono HRA.out.below.size))
      · have HS2 := Lib.hid (HSO.out hK)
        have hdk : ((K : Int) == 0) = false := by rw [beq_eq_false_iff_ne]; omega
        have HK0 := Lib.hid hK
        obtain ⟨a3, c3, w3, hrun, hown, hb3⟩ := own_push (T := 30) (tx := 30) Tryz.underlying30 Tryz.underlying30 HI.out.1 HI.out.2.1 HI.out.2.2.1 HI.out.2.2.2 rfl (HOWN.out.below HB2.out) (Nat.le_trans HRA.out.below.size HB2.out.size) (tcs_one _) #[.string (Mt.str R)] rfl (by simp [Value.oneCell']) (by omega) (by omega)
        have HO3 := Lib.hid hown
        have HB3 := Lib.hid hb3
        clear hK hown hb3
        go_wp2_with (refine wpList_append_run rfl _ _ 30 30 rfl _ _ rfl rfl hrun ?_)
        have hK1 := HK0.out
        have hld : (l.drop K).length = n - K := by rw [List.length_drop, HLN.out]
        have hol : (out ++ [R]).length = m + 1 := by rw [List.length_append, List.length_singleton, HOM.out]
        have hcd := IsCls.drop (w := w) (a := a) (aK := if c = K then a else Option.map (fun x => x.add (K * 5)) a) (cap := c) (k := K) (l := l) (by rw [HLN.out]; exact HCLS.out) (by rw [HLN.out]; exact hKn) (by
          obtain ⟨_, _, e1, e2, _⟩ := HCLS.out
          cases e1; exact e2) rfl
        rw [HLN.out] at hcd
        refine ⟨⟨l.drop K, out ++ [R], _, _, _, _, by rw [hld], by rw [hol], Lib.hid ⟨?_, ?_, HS2.out, ?_, fun x hx => HRA.out.body x (List.mem_of_mem_drop hx), (HRA.out.below.trans (HB2.out.mono HRA.out.below.size)).trans HB3.out⟩⟩, ?_⟩
        · rw [hld]; exact hcd
        · rw [hol, tcs_append]; exact HO3.out
        · rw [hld, hol]; have := HRA.out.less; have := HLN.out; have := HOM.out; omega
        · show n - K < n
          omega
theorem records_any {v : Value} {ls : List Mt.Cl} (hv : IsCls w v ls) (hn : ls.length ≤ 8192) (hb : ∀ c ∈ ls, c.body.length ≤ 110) (gen : Nat) :
    Calls Tryz.prog 66 #[v, .int .u64 (gen : Int)] w fun e w' => ∃ x, e = .returned x ∧ IsTs w' x (Mt.records ls gen) ∧ Below w.heap.size w w' :=
  (records_new hv hn hb gen).mono fun _ _ ⟨x, e, h, b⟩ => ⟨x, e, h.1, b⟩
end
end Go.Proofs.YtnioagojiipjlaaGreat

/-
  A row of cells, as it lies in memory.
-/
namespace Go.Proofs.YtnioagojiipjlaaGreat
open Go.RowKit
/-- The cells of a row. -/
def ccs (l : List Mt.Cl) : List Value := (l.map fun c => (clV c).toList).flatten
theorem ccs_cons (c : Mt.Cl) (l : List Mt.Cl) : ccs (c :: l) = (clV c).toList ++ ccs l := by simp [ccs]
theorem ccs_append (a b : List Mt.Cl) : ccs (a ++ b) = ccs a ++ ccs b := by simp [ccs]
theorem ccs_length : ∀ l : List Mt.Cl, (ccs l).length = l.length * 5
  | [] => rfl
  | c :: r => by rw [ccs_cons, List.length_append, ccs_length r, List.length_cons]; simp [clV]; omega
theorem ccs_get (l : List Mt.Cl) (k : Nat) (h : k < l.length) : ccs l = ccs (l.take k) ++ ((clV l[k]).toList ++ ccs (l.drop (k + 1))) := by
  rw [← ccs_cons, ← ccs_append]
  congr 1
  rw [← List.drop_eq_getElem_cons h, List.take_append_drop]
theorem set5 (A B : List Value) (x0 x1 x2 x3 x4 v0 v1 v2 v3 v4 : Value) (n : Nat) (hn : A.length = n) :
    (((((A ++ ([x0, x1, x2, x3, x4] ++ B)).set n v0).set (n + 1) v1).set (n + 2) v2).set (n + 3) v3).set (n + 4) v4 = A ++ ([v0, v1, v2, v3, v4] ++ B) := by
  subst hn
  rw [List.set_append_right _ _ (Nat.le_refl _), Nat.sub_self, List.set_append_right _ _ (by omega), List.set_append_right _ _ (by omega), List.set_append_right _ _ (by omega), List.set_append_right _ _ (by omega)]
  simp only [Nat.add_sub_cancel_left]
  rfl
theorem row_set (l : List Mt.Cl) (k : Nat) (h : k < l.length) (c : Mt.Cl) :
    ((((((ccs l).toArray.setIfInBounds (k * 5) (.int .u64 (c.gen : Int))).setIfInBounds (k * 5 + 1) (.int .u64 (c.number : Int))).setIfInBounds (k * 5 + 2) (.int .i64 (c.part : Int))).setIfInBounds (k * 5 + 3) (.int .i64 (c.parts : Int))).setIfInBounds (k * 5 + 4) (.string (Mt.str c.body))) = (ccs (l.set k c)).toArray := by
  apply Array.ext'
  simp only [Array.toList_setIfInBounds]
  rw [ccs_get l k h]
  have hl : (ccs (l.take k)).length = k * 5 := by rw [ccs_length, List.length_take]; congr 1; omega
  have e : (clV l[k]).toList = [.int .u64 ((l[k]).gen : Int), .int .u64 ((l[k]).number : Int), .int .i64 ((l[k]).part : Int), .int .i64 ((l[k]).parts : Int), .string (Mt.str (l[k]).body)] := rfl
  rw [e, set5 _ _ _ _ _ _ _ _ _ _ _ _ _ hl, List.set_eq_take_append_cons_drop, if_pos h, ccs_append, ccs_cons]
  rfl
theorem cellAt_row {w : World} {g : Nat} {l : List Mt.Cl} (h : w.heap[g]? = some (.cells (ccs l).toArray 106 (0, 0))) (k : Nat) (hk : k < l.length) : CellAt w g (k * 5) l[k] := by
  have hl : (ccs (l.take k)).length = k * 5 := by rw [ccs_length, List.length_take]; congr 1; omega
  have hg : ∀ i v, (clV l[k]).toList[i]? = some v → w.cell? ⟨g, k * 5 + i, none⟩ = some v := fun i v hv => by
    rw [cell_of_row _ _ _ _ _ _ h, List.getElem?_toArray, ccs_get l k hk, List.getElem?_append_right (by omega), hl, Nat.add_sub_cancel_left]
    have : i < (clV l[k]).toList.length := by
      rcases Nat.lt_or_ge i (clV l[k]).toList.length with h | h
      · exact h
      · rw [List.getElem?_eq_none h] at hv; cases hv
    rw [List.getElem?_append_left this]
    exact hv
  exact ⟨hg 0 _ rfl, hg 1 _ rfl, hg 2 _ rfl, hg 3 _ rfl, hg 4 _ rfl⟩
theorem isCls_row {w : World} {g n : Nat} {l : List Mt.Cl} (hn : l.length = n) (h : w.heap[g]? = some (.cells (ccs l).toArray 106 (0, 0))) : IsCls w (.slice (some ⟨g, 0, none⟩) n n) l := by
  subst hn
  exact ⟨some ⟨g, 0, none⟩, l.length, rfl, Nat.le_refl _, .inr ⟨g, 0, rfl, lt_of_block h, fun j hj => by rw [Nat.zero_add]; exact cellAt_row h j hj⟩⟩
/-- A part of a row. -/
theorem isCls_part {w : World} {g n : Nat} {l : List Mt.Cl} (hn : l.length = n) (h : w.heap[g]? = some (.cells (ccs l).toArray 106 (0, 0))) (a b cap : Nat) (hab : a + b ≤ n) (hc : b ≤ cap) : IsCls w (.slice (some ⟨g, a * 5, none⟩) b cap) ((l.drop a).take b) := by
  have hl : ((l.drop a).take b).length = b := by rw [List.length_take, List.length_drop]; omega
  refine ⟨some ⟨g, a * 5, none⟩, cap, by rw [hl], by omega, .inr ⟨g, a * 5, rfl, lt_of_block h, fun j hj => ?_⟩⟩
  have := cellAt_row h (a + j) (by omega)
  rw [show a * 5 + j * 5 = (a + j) * 5 by omega, List.getElem_take, List.getElem_drop]
  exact this
theorem Tryz.infoCl : (Tryz.prog.info? 106).map (fun i => (i.zero, i.size, i.bytes)) = some (some (.agg zcV), 5, 48) := by kernel_rfl
theorem ccs_zero : ∀ n : Nat, ccs (List.replicate n Mt.Cl.zero) = (List.replicate n (zcV.toList)).flatten
  | 0 => rfl
  | n + 1 => by rw [List.replicate_succ, ccs_cons, ccs_zero n]; rfl
theorem zero_row (n i : Nat) (hi : i < n * 5) : (ccs (List.replicate n Mt.Cl.zero))[i]? = zcV[i % 5]? := by
  have hk : i / 5 < (List.replicate n Mt.Cl.zero).length := by rw [List.length_replicate]; omega
  have hl : (ccs ((List.replicate n Mt.Cl.zero).take (i / 5))).length = i / 5 * 5 := by rw [ccs_length, List.length_take]; congr 1; omega
  rw [ccs_get (List.replicate n Mt.Cl.zero) (i / 5) hk, List.getElem?_append_right (by omega), hl, List.getElem?_append_left (by simp [clV]; omega)]
  rw [show i - i / 5 * 5 = i % 5 by omega]
  simp only [List.getElem_replicate]
  show zcV.toList[i % 5]? = _
  rw [Array.getElem?_toList]
theorem made_cells (n : Nat) : madeCells (Value.agg zcV).cells (n * 5) = (ccs (List.replicate n Mt.Cl.zero)).toArray := by
  apply Array.ext_getElem?
  intro i
  have hs : (Value.agg zcV).cells = zcV := rfl
  have e2 : (ccs (List.replicate n Mt.Cl.zero)).toArray[i]? = (ccs (List.replicate n Mt.Cl.zero))[i]? := by simp
  rw [e2]
  by_cases hi : i < n * 5
  · rw [zero_row n i hi, hs]
    have h5 : i % 5 < zcV.size := Nat.mod_lt _ (by decide)
    unfold madeCells
    rw [Array.getElem?_map, Array.getElem?_range, if_pos hi, Option.map_some, Array.getElem?_eq_getElem h5]
    congr 1
    exact getElem!_pos zcV (i % 5) h5
  · rw [List.getElem?_eq_none (by rw [ccs_length, List.length_replicate]; omega), Array.getElem?_eq_none]
    unfold madeCells
    simp; omega
theorem make_cls (k : Nat) (hk : k ≤ 100000) (w : World) : (Instr.makeSlice 104 (.int .i64 (k : Int)) (.int .i64 (k : Int))).run Tryz.prog w = .ok (.slice (some ⟨w.heap.size, 0, none⟩) k k) (w.alloc (.cells (ccs (List.replicate k Mt.Cl.zero)).toArray 106)) := by
  obtain ⟨i, hi, hz, hs, hb⟩ := info_parts Tryz.infoCl
  have h := run_make (P := Tryz.prog) w 104 106 i _ Tryz.underlying104 hi hz .i64 .i64 (k : Int) (k : Int) (by omega) (Int.le_refl _) (by rw [hb]; omega) (by omega)
  rw [Int.toNat_natCast, hs, made_cells] at h
  exact h
end Go.Proofs.YtnioagojiipjlaaGreat

/-
  What find goes through: a row of cells, sector by sector.
-/
namespace Go.Proofs.YtnioagojiipjlaaGreat
open Go.RowKit
/-- The row behind k sectors. -/
def Mt.hlRow (d : Mt.Dk) (N k : Nat) : List Mt.Cl := [Mt.Cl.zero, Mt.Cl.zero] ++ (d.cellsFrom 2 (k - 2) ++ List.replicate (N - k) Mt.Cl.zero)
theorem Mt.cellsFrom_length (d : Mt.Dk) (a n : Nat) : (d.cellsFrom a n).length = n := by simp [Mt.Dk.cellsFrom]
theorem Mt.hlRow_length (d : Mt.Dk) (N k : Nat) (h2 : 2 ≤ k) (hk : k ≤ N) : (Mt.hlRow d N k).length = N := by
  unfold Mt.hlRow
  simp only [List.length_append, Mt.cellsFrom_length, List.length_replicate, List.length_cons, List.length_nil]
  omega
theorem Mt.hlRow_two (d : Mt.Dk) (N : Nat) (h : 2 ≤ N) : Mt.hlRow d N 2 = List.replicate N Mt.Cl.zero := by
  unfold Mt.hlRow Mt.Dk.cellsFrom
  obtain ⟨m, rfl⟩ : ∃ m, N = m + 2 := ⟨N - 2, by omega⟩
  rw [List.replicate_succ, List.replicate_succ]
  simp
theorem Mt.cellsFrom_snoc (d : Mt.Dk) (a n : Nat) : d.cellsFrom a (n + 1) = d.cellsFrom a n ++ [Mt.rdCell (d.sec (a + n))] := by
  unfold Mt.Dk.cellsFrom
  rw [List.range_succ, List.map_append]; rfl
theorem Mt.hlRow_set (d : Mt.Dk) (N k : Nat) (h2 : 2 ≤ k) (hk : k < N) : (Mt.hlRow d N k).set k (Mt.rdCell (d.sec k)) = Mt.hlRow d N (k + 1) := by
  unfold Mt.hlRow
  have e : N - k = (N - (k + 1)) + 1 := by omega
  have e2 : k + 1 - 2 = (k - 2) + 1 := by omega
  have hl := Mt.cellsFrom_length d 2 (k - 2)
  rw [List.set_append_right _ _ (by simpa using h2), List.length_cons, List.length_cons, List.length_nil, List.set_append_right _ _ (by rw [hl]; omega), hl, show k - (0 + 1 + 1) - (k - 2) = 0 by omega, e, List.replicate_succ, List.set_cons_zero, e2, Mt.cellsFrom_snoc, show 2 + (k - 2) = k by omega]
  simp
theorem Mt.hlRow_full (d : Mt.Dk) (N : Nat) : Mt.hlRow d N N = [Mt.Cl.zero, Mt.Cl.zero] ++ d.cellsFrom 2 (N - 2) := by
  unfold Mt.hlRow
  simp
theorem Mt.greatest_row (d : Mt.Dk) (N a b : Nat) : Mt.greatest (Mt.hlRow d N N) a b = Mt.greatest (d.cellsFrom 2 (N - 2)) a b := by
  rw [Mt.hlRow_full]
  simp [Mt.greatest, Mt.Cl.zero]
theorem Mt.part_row (d : Mt.Dk) (z h : Nat) (hh : h ≤ 1) : ((Mt.hlRow d (2 + 2 * z) (2 + 2 * z)).drop (2 + h * z)).take z = d.cellsFrom (2 + h * z) z := by
  have hlen : h * z + z ≤ 2 * z := by
    have : h = 0 ∨ h = 1 := by omega
    rcases this with rfl | rfl <;> omega
  rw [Mt.hlRow_full, show 2 + 2 * z - 2 = 2 * z by omega, ← List.drop_drop]
  have e : ([Mt.Cl.zero, Mt.Cl.zero] ++ d.cellsFrom 2 (2 * z)).drop 2 = d.cellsFrom 2 (2 * z) := rfl
  rw [e]
  apply List.ext_getElem
  · rw [List.length_take, List.length_drop, Mt.cellsFrom_length, Mt.cellsFrom_length]; omega
  · intro i h1 h2
    rw [List.getElem_take, List.getElem_drop]
    simp only [Mt.Dk.cellsFrom, List.getElem_map, List.getElem_range]
    rw [show 2 + (h * z + i) = 2 + h * z + i by omega]
theorem Mt.row_body (d : Mt.Dk) (a n : Nat) : ∀ c ∈ d.cellsFrom a n, c.body.length ≤ 110 := by
  intro c hc
  unfold Mt.Dk.cellsFrom at hc
  rw [List.mem_map] at hc
  obtain ⟨i, _, rfl⟩ := hc
  unfold Mt.rdCell
  split
  · rename_i h
    show ((List.drop 18 _).take _).length ≤ 110
    rw [List.length_take]
    have := h.2.2.1
    omega
  · show (0 : Nat) ≤ 110; omega
end Go.Proofs.YtnioagojiipjlaaGreat
