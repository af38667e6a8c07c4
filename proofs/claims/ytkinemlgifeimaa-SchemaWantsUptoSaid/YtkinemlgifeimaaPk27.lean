/-
  Some texts of one proof, one behind the other.
-/
import Derived.Test.YtkinemlgifeimaaPk14
import Derived.Test.YtkinemlgifeimaaPk26
set_option linter.unusedVariables false
set_option linter.unusedSimpArgs false

/-
  The document's chain of a class, where nothing is wrong with the schema.
-/
namespace Go.Proofs.Ytkinemlgifeimaa
open Go.RowKit

/-- An append whose run is known. -/
theorem oper_append13' {P : Program} {o : Oper} {a : Act} {w : World} {K : Act → World → Prop} {Q : Exit → Act → World → Prop}
    (s x : Operand) (t t' : TypeId) (hop : o.op = Op.call { callee := Callee.builtin Builtin.append, args := #[s, x], argTypes := #[t, t'] })
    (v u : Value) (hs : a.eval s = v) (hx : a.eval x = u) (w0 : World) (hw : w = w0) {v' : Value} {w' : World} (hr : ∀ ty, (Builtin.append_ #[t, t'] ty #[v, u]).run P w0 = .ok v' w')
    (hK : K (a.put o.dst v') w') : Oper.wp P o a w K Q := by
  subst hw
  unfold Oper.wp
  simp [execOp, hop, resolve, invoke, builtin, hs, hx, hr, Result.andThen]
  exact hK
theorem rClAt_any {w : World} {tv cv : Value} {s : Mt.Sc} (h : IsSc w tv cv s) (nm : List UInt8) (hn : nm.length ≤ 140737488351232) :
    Calls Try.prog 16 #[cv, .string (Mt.str nm)] w fun e w' => e = .returned (.int .i64 (Mt.clAt s nm)) ∧ Below w.heap.size w w' :=
  rClassAt_any h.classes nm hn (fun t ht => (h.cnm t ht).1) h.clen
theorem Mt.chain_step {s : Mt.Sc} (h : Mt.chk s = 0) {k : Nat} (hk : k < s.classes.length) : Mt.chainF s s.classes.length (k : Int) = k :: Mt.chainF s s.classes.length (Mt.supAt s k) := by
  obtain ⟨m, hm⟩ : ∃ m, s.classes.length = m + 1 := ⟨s.classes.length - 1, by omega⟩
  have h3 := (Mt.supAt_range (s := s) k).2
  rw [hm, Mt.chainF_pos s m (by omega), Int.toNat_natCast]
  congr 1
  exact Mt.chainF_more s m (m + 1) _ (by omega) (by omega)
set_option maxRecDepth 100000 in
set_option maxHeartbeats 4000000 in
theorem rchain13_any {tv cv : Value} {s : Mt.Sc} (n : List UInt8) (hn : n.length ≤ 140737488351232) {w : World} (h : IsSc w tv cv s) (hk0 : Mt.chk s = 0) :
    Calls Try.prog 20 #[.agg #[tv, cv], .string (Mt.str n)] w fun e w' => ∃ v, e = .returned v ∧ IsOwn 9 1 w.heap.size w' v (Mt.chainN s n).length (nms (Mt.chainN s n)) ∧ Below w.heap.size w w' := by
  have HK := Lib.hid (fun (x : List UInt8) (hx : x.length ≤ 140737488351232) (u : World) (hb : Below w.heap.size w u) => rClAt_any (h.below hb) x hx)
  have hlen := (Mt.chk_len hk0).2
  obtain ⟨i0, hi, hz0, hz1, hz2⟩ := info_parts Try.infoStr13
  have HI := Lib.hid (And.intro hi (And.intro hz0 (And.intro hz1 hz2)))
  obtain ⟨ta, tcap, hv1, -, -⟩ := h.types
  obtain ⟨ca, ccap, hv2, hcc, HCS⟩ := h.classes
  have HCM := Lib.hid h.cnm
  have HK0 := Lib.hid hk0
  have HR := Lib.hid (Mt.clAt_range s n)
  have HCL := Lib.hid (Mt.chain_len s n)
  obtain ⟨m, hm⟩ : ∃ m, s.classes.length = m := ⟨_, rfl⟩
  have HMM := Lib.hid hm
  have HN := Lib.hid (HK.out n hn)
  obtain ⟨k0, hk⟩ : ∃ k, Mt.clAt s n = k := ⟨_, rfl⟩
  rw [hk] at HR HN
  have HCH : Hid (Mt.chain s n = Mt.chainF s s.classes.length k0) := Lib.hid (by unfold Mt.chain; rw [hk])
  obtain ⟨NM, hNM⟩ : ∃ f : Nat → List UInt8, f = fun (i : Nat) => (Mt.clI s (i : Int)).name := ⟨_, rfl⟩
  have hCN : Mt.chainN s n = (Mt.chain s n).map NM := by rw [hNM]; rfl
  rw [hCN]
  have HNM := Lib.hid hNM
  generalize hCC : Mt.chain s n = CC at *
  rw [hm] at hv2 hcc hlen HR HCL
  subst hv1 hv2
  generalize s.types.length = tn at *
  obtain ⟨w1, hw1⟩ : ∃ w1, w.alloc (.cells #[.slice ta tn tcap, .slice ca m ccap] 25) = w1 := ⟨_, rfl⟩
  have HA1 : Hid (Below w.heap.size w w1) := Lib.hid (by rw [← hw1]; exact (Below.refl _ w).alloc (Nat.le_refl _) _)
  have hs1 : w1.heap.size = w.heap.size + 1 := by rw [← hw1]; simp
  have hx1 : w1.heap[w.heap.size]? = some (.cells #[.slice ta tn tcap, .slice ca m ccap] 25) := by rw [← hw1]; exact heap_alloc_new w _
  have HP : Hid (∀ u, Below w1.heap.size w1 u → (u.cell? ⟨w.heap.size, 0, none⟩ = some (.slice ta tn tcap) ∧ u.cell? ⟨w.heap.size, 1, none⟩ = some (.slice ca m ccap)) ∧ Below w.heap.size w u) := Lib.hid (fun u hu => by
    have r1 := (hu.block w.heap.size (by omega)).trans hx1
    exact ⟨⟨by rw [cell_of_row _ _ _ _ _ _ r1]; rfl, by rw [cell_of_row _ _ _ _ _ _ r1]; rfl⟩, HA1.out.trans (hu.mono HA1.out.size)⟩)
  obtain ⟨⟨p0, p1⟩, -⟩ := HP.out w1 (Below.refl _ _)
  generalize Mt.str n = N at *
  clear h hk0 hn hi hz0 hz1 hz2 hx1 hm hk hNM hCN hCC
  go_enter Try.func20, Try.ntmps20
  go_wp2_with fail
  refine (HN.out _ HA1.out).mono ?_
  rintro e w2 ⟨rfl, hb⟩
  have HW2 : Hid (Below w1.heap.size w1 w2) := Lib.hid hb
  clear hb p0 p1
  go_wp2_with fail
  have HW20 : Hid (Below w1.heap.size w1 w2) := HW2
  go_loopw [6, 5] (fun kv ov wr => ∃ (k : Int) (P : List Nat) (a2 : Option Addr) (c2 : Nat), kv = .int .i64 k ∧ ov = .slice a2 P.length c2 ∧ (-1 ≤ k ∧ k < m) ∧ P.length ≤ m ∧ Hid (CC = P ++ Mt.chainF s s.classes.length k) ∧ Hid (IsOwn 9 1 w1.heap.size wr (.slice a2 P.length c2) P.length (nms (P.map NM))) ∧ Hid (Below w1.heap.size w1 wr)) (fun kv _ _ => (intOf kv + 1).toNat)
  case atStart => exact ⟨k0, [], none, 0, rfl, rfl, HR.out, Nat.zero_le _, Lib.hid (by rw [HCH.out]; rfl), Lib.hid (IsOwn.nil _ _ _ _), HW20⟩
  case round =>
    obtain ⟨k, P, a2, c2, rfl, rfl, hk, hp, HC, HO, HW⟩ := hrel
    obtain ⟨⟨p0, p1⟩, hB⟩ := HP.out wr HW.out
    have HB := Lib.hid hB
    clear hB
    obtain ⟨l, hl⟩ : ∃ l, P.length = l := ⟨_, rfl⟩
    have HPL := Lib.hid hl
    rw [hl] at hp HO ⊢
    clear hl
    by_cases hneg : k < 0
    · have d1 : decide (0 ≤ k) = false := decide_eq_false (by omega)
      have HF : Hid (CC = P) := Lib.hid (by rw [HC.out, Mt.chainF_neg s _ hneg, List.append_nil])
      clear hneg
      go_wp2_with fail
      go_ret
      refine ⟨_, rfl, ?_, HB.out⟩
      first
        | rw [HF.out, List.length_map, HPL.out]
        | rw [HF.out, HPL.out]
      obtain ⟨g, hg, h2⟩ := HO.out
      exact ⟨g, Nat.le_trans HA1.out.size hg, h2⟩
    · obtain ⟨x, rfl⟩ := Int.eq_ofNat_of_zero_le (show 0 ≤ k by omega)
      have hxm : x < m := by omega
      have hxl : x < s.classes.length := by rw [HMM.out]; exact hxm
      have hst := Mt.chain_step HK0.out hxl
      have hcc2 := HC.out
      rw [hst] at hcc2
      have hlm : l < m := by
        have := HCL.out
        rw [hcc2, List.length_append, HPL.out, List.length_cons] at this
        omega
      obtain ⟨hsn, hss⟩ := Mt.chk_sup HK0.out x hxl
      obtain ⟨b, off, mv, yv, e0, hbl, h0, h1, -, -, -, -, -⟩ := HCS.out x hxl
      have hcm := HCM.out _ (List.getElem_mem hxl)
      have hg := Mt.clI_get hxl
      rw [hg] at hsn hss
      have hnx : NM x = s.classes[x].name := by rw [HNM.out]; show (Mt.clI s (x : Int)).name = _; rw [hg]
      obtain ⟨c, hc⟩ : ∃ c, s.classes[x] = c := ⟨_, rfl⟩
      rw [hc] at h0 h1 hcm hsn hss hnx
      subst e0
      have HY : Hid (∀ u, Below w.heap.size w u → u.cell? ⟨b, off + x * 5, none⟩ = some (.string (Mt.str c.name)) ∧ u.cell? ⟨b, off + x * 5 + 1, none⟩ = some (.string (Mt.str c.sup))) := Lib.hid (fun u hu => ⟨(hu.cell (p := ⟨b, _, none⟩) hbl).trans h0, (hu.cell (p := ⟨b, _, none⟩) hbl).trans h1⟩)
      have HKS := Lib.hid (HK.out c.sup hcm.2.1)
      have HU : Hid ((Mt.str c.sup).toList.isEmpty = decide (c.sup = [])) := Lib.hid (by
        rw [ByteArray.toList_eq, Mt.str_data, Bool.eq_iff_iff, List.isEmpty_iff, decide_eq_true_eq])
      obtain ⟨y0, y1⟩ := HY.out wr HB.out
      have x0 : (0 : Int) ≤ (x : Int) := by omega
      have x1 : (x : Int) < (m : Int) := by omega
      have d1 : decide ((0 : Int) ≤ (x : Int)) = true := decide_eq_true (by omega)
      have d2 : decide ((l : Int) < (m : Int)) = true := decide_eq_true (by omega)
      have d3 : decide (l < m) = true := decide_eq_true hlm
      obtain ⟨a3, c3, w5, hrun, hown, hb5⟩ := own_push (T := 29) (tx := 29) Try.underlying29 Try.underlying29 HI.out.1 HI.out.2.1 HI.out.2.2.1 HI.out.2.2.2 rfl HO.out HW.out.size (nms_one _) #[.string (Mt.str c.name)] rfl (by simp [Value.oneCell']) (by omega) (by omega)
      have HO5 : Hid (IsOwn 9 1 w1.heap.size w5 (.slice a3 (l + 1) c3) (l + 1) (nms ((P ++ [x]).map NM))) := Lib.hid (by
        have e : nms ((P ++ [x]).map NM) = nms (P.map NM) ++ (#[.string (Mt.str c.name)] : Array Value).toList := by rw [List.map_append, ← hnx]; simp [nms]
        rw [e]; exact hown)
      have HW5 := Lib.hid (HW.out.trans hb5)
      obtain ⟨sp, hsp⟩ : ∃ q, Mt.supAt s x = q := ⟨_, rfl⟩
      have hsr := Mt.supAt_range (s := s) x
      rw [hsp] at hsn hss hcc2 hsr
      have HC5 : Hid (CC = (P ++ [x]) ++ Mt.chainF s s.classes.length sp) := Lib.hid (by rw [hcc2, List.append_assoc]; rfl)
      generalize Mt.str c.name = N at *
      generalize Mt.str c.sup = U at *
      have HSS := Lib.hid hss
      have HSN := Lib.hid hsn
      clear h0 h1 hbl hc hcm hg hnx hown hb5 hst hcc2 hsp hss hsn hxl
      go_upto_region 5 with (with_reducible refine oper_append13' (.tmp 21) (.tmp 28) 29 29 ?_ _ _ ?_ ?_ _ ?_ hrun ?_; rfl; simp [go_sem]; simp [go_sem]; with_reducible rfl)
      clear p0 p1 y0 y1 hrun
      obtain ⟨⟨p0, p1⟩, hB5⟩ := HP.out w5 HW5.out
      obtain ⟨y0, y1⟩ := HY.out w5 hB5
      have HB5 := Lib.hid hB5
      clear hB5
      by_cases hse : c.sup = []
      · have he : U.toList.isEmpty = true := by rw [HU.out, decide_eq_true hse]
        have HF : Hid (CC = P ++ [x]) := Lib.hid (by rw [HC5.out, Mt.chainF_neg s _ (HSN.out hse), List.append_nil])
        clear hse
        go_wp2_with fail
        go_ret
        refine ⟨_, rfl, ?_, HB5.out⟩
        first
          | rw [HF.out, List.length_map, List.length_append, HPL.out]
          | rw [HF.out, List.length_append, HPL.out]
        obtain ⟨g, hg, h2⟩ := HO5.out
        exact ⟨g, Nat.le_trans HA1.out.size hg, h2⟩
      · have he : U.toList.isEmpty = false := by rw [HU.out, decide_eq_false hse]
        obtain ⟨hs1', hs2⟩ := HSS.out hse
        have HKS2 := HKS
        rw [← hs1'] at HKS2
        clear hse HKS HSS HSN hs1'
        go_upto_region 7 with fail
        have HBd := Lib.hid HB5.out.drew
        have HWd := Lib.hid HW5.out.drew
        have HZd : Hid (Below w5.heap.size w5 w5.drew) := Lib.hid (Below.refl _ w5).drew
        go_region_held3 (fun w' => w'.cell? ⟨w.heap.size, 1, none⟩ = some (.slice (some ⟨b, off, none⟩) m ccap) ∧ w'.cell? ⟨b, off + x * 5 + 1, none⟩ = some (.string U))
          (first
            | with_reducible exact ⟨p1, y1⟩
            | with_reducible exact ⟨(HP.out _ HWd.out).1.2, (HY.out _ HBd.out).2⟩
            | go_keep)
          (first
            | (go_at_call 16; (with_reducible refine (HKS2.out _ HBd.out).mono ?_); rintro e w6 ⟨rfl, hb⟩; have HBd := Lib.hid (HBd.out.trans (hb.mono HBd.out.size)); have HO6 := Lib.hid (HO5.out.below (HZd.out.trans (hb.mono (Nat.le_refl _)))); have HWd := Lib.hid (HWd.out.trans (hb.mono HWd.out.size)); clear hb p0 p1 y0 y1))
        all_goals
          have hpl : (P ++ [x]).length = l + 1 := by rw [List.length_append, HPL.out]; rfl
          go_wp2_with fail
          go_roundw
          case rel => exact ⟨sp, P ++ [x], a3, c3, rfl, by rw [hpl], by omega, by omega, HC5, by rw [hpl]; exact HO6, HWd⟩
          case measure => simp [intOf]; omega
end Go.Proofs.Ytkinemlgifeimaa

/-
  Names copied; the type and the class of a name.
-/
namespace Go.Proofs.Ytkinemlgifeimaa
open Go.RowKit

theorem row4_set {u : World} {b : Nat} {x0 x1 x2 x3 : Value} {T : TypeId} (h : u.heap[b]? = some (.cells #[x0, x1, x2, x3] T)) (v0 v1 v2 v3 : Value) : ((((u.setCell ⟨b, 0, none⟩ v0).setCell ⟨b, 1, none⟩ v1).setCell ⟨b, 2, none⟩ v2).setCell ⟨b, 3, none⟩ v3).heap[b]? = some (.cells #[v0, v1, v2, v3] T) :=
  heap_setCell_same _ b 3 _ T v3 (heap_setCell_same _ b 2 _ T v2 (heap_setCell_same _ b 1 _ T v1 (heap_setCell_same u b 0 _ T v0 h)))
theorem row5_set {u : World} {b : Nat} {x0 x1 x2 x3 x4 : Value} {T : TypeId} (h : u.heap[b]? = some (.cells #[x0, x1, x2, x3, x4] T)) (v0 v1 v2 v3 v4 : Value) : (((((u.setCell ⟨b, 0, none⟩ v0).setCell ⟨b, 1, none⟩ v1).setCell ⟨b, 2, none⟩ v2).setCell ⟨b, 3, none⟩ v3).setCell ⟨b, 4, none⟩ v4).heap[b]? = some (.cells #[v0, v1, v2, v3, v4] T) :=
  heap_setCell_same _ b 4 _ T v4 (heap_setCell_same _ b 3 _ T v3 (heap_setCell_same _ b 2 _ T v2 (heap_setCell_same _ b 1 _ T v1 (heap_setCell_same u b 0 _ T v0 h))))
theorem box4_of {w : World} {b : Nat} {v0 v1 v2 v3 : Value} {T : TypeId} (h : w.heap[b]? = some (.cells #[v0, v1, v2, v3] T)) :
    (w.cell? ⟨b, 0, none⟩ = some v0 ∧ w.cell? ⟨b, 1, none⟩ = some v1 ∧ w.cell? ⟨b, 2, none⟩ = some v2 ∧ w.cell? ⟨b, 3, none⟩ = some v3) ∧
    (w.frozen? ⟨b, 0, none⟩ = false ∧ w.frozen? ⟨b, 1, none⟩ = false ∧ w.frozen? ⟨b, 2, none⟩ = false ∧ w.frozen? ⟨b, 3, none⟩ = false) :=
  ⟨⟨by rw [cell_of_row _ _ _ _ _ _ h]; rfl, by rw [cell_of_row _ _ _ _ _ _ h]; rfl, by rw [cell_of_row _ _ _ _ _ _ h]; rfl, by rw [cell_of_row _ _ _ _ _ _ h]; rfl⟩,
    frozen_of_row _ _ 0 _ _ h, frozen_of_row _ _ 1 _ _ h, frozen_of_row _ _ 2 _ _ h, frozen_of_row _ _ 3 _ _ h⟩
set_option maxRecDepth 100000 in
set_option maxHeartbeats 2000000 in
theorem cloneN_any {w : World} {v : Value} {l : List (List UInt8)} (h : IsNms w v l) (hn : l.length ≤ 8796093022208) :
    Calls Try.prog 36 #[v] w fun e w' => ∃ a n c, e = .returned (.slice a n c) ∧ IsOwn 9 1 w.heap.size w' (.slice a n c) l.length (nms l) ∧ Below w.heap.size w w' := by
  obtain ⟨a, cap, rfl, hcap, HC⟩ := id h
  cases a with
  | none =>
    have hl : l = [] := by
      cases l with
      | nil => rfl
      | cons x r => obtain ⟨b, off, e, _⟩ := HC.out 0 (by simp); cases e
    subst hl
    have he : ∀ u : World, (binOp .eql 29 (.slice none 0 cap) (.slice none 0 0)).run Try.prog u = .ok (.bool true) u := fun _ => rfl
    clear h HC hcap
    go_enter Try.func36, Try.ntmps36
    go_wp2_with fail
    all_goals (go_ret; exact ⟨_, _, _, rfl, IsOwn.nil _ _ _ _, Below.refl _ _⟩)
  | some x =>
    have hb : Below w.heap.size w (w.alloc (.cells #[] 9)) := (Below.refl _ w).alloc (Nat.le_refl _) _
    have hx : (w.alloc (.cells #[] 9)).heap[w.heap.size]? = some (.cells #[] 9) := heap_alloc_new w _
    have hoa : IsOwn 9 1 w.heap.size (w.alloc (.cells #[] 9)) (.slice (some ⟨w.heap.size, 0, none⟩) 0 0) ([] : List (List UInt8)).length (nms []) := ⟨w.heap.size, Nat.le_refl _, rfl, .inr ⟨0, 0, #[], rfl, hx, Nat.le_refl _, Nat.le_refl _, fun j hj => absurd hj (by simp [nms])⟩⟩
    obtain ⟨a6, c6, w6, hrun, own6, hb6⟩ := own_cat13 hoa hb.size (h.below hb) (by simp; omega)
    simp only [List.length_nil, Nat.zero_add, List.nil_append] at hrun own6
    have HO := Lib.hid own6
    have HB := Lib.hid (hb.trans hb6)
    clear h HC hcap hb hx hoa own6 hb6
    have he : ∀ u : World, (binOp .eql 29 (.slice (some x) l.length cap) (.slice none 0 0)).run Try.prog u = .ok (.bool false) u := fun _ => rfl
    generalize l.length = n at *
    go_enter Try.func36, Try.ntmps36
    go_wp2_with (refine wpList_append_run rfl (.tmp 5) (.tmp 6) 29 29 rfl (.slice (some ⟨w.heap.size, 0, none⟩) 0 0) (.slice (some x) n cap) rfl rfl hrun ?_; clear hrun)
    all_goals (go_ret; exact ⟨_, _, _, rfl, HO.out, HB.out⟩)
/-- What there is of a name's type. -/
def Mt.tyOf (s : Mt.Sc) (n : List UInt8) : Mt.Ty := if Mt.tyAt s n < 0 then ⟨[], 0, false, false⟩ else Mt.tyI s (Mt.tyAt s n)
set_option maxRecDepth 100000 in
set_option maxHeartbeats 2000000 in
theorem find13_any {tv cv : Value} {s : Mt.Sc} (n : List UInt8) (hn : n.length ≤ 140737488351232) {w : World} (h : IsSc w tv cv s) :
    Calls Try.prog 13 #[.agg #[tv, cv], .string (Mt.str n)] w fun e w' => e = .returned (.tuple #[.agg #[.string (Mt.str (Mt.tyOf s n).name), .int .i64 (Mt.tyOf s n).syn, .bool (Mt.tyOf s n).single, .bool (Mt.tyOf s n).oper], .bool (decide (0 ≤ Mt.tyAt s n))]) ∧ Below w.heap.size w w' := by
  have HK := Lib.hid (fun (u : World) (hb : Below w.heap.size w u) => typeAt_any n hn (h.below hb))
  have hr := Mt.tyAt_range s n
  obtain ⟨ta, tcap, hv1, htc, HTS⟩ := h.types
  have hlt := h.tlen
  obtain ⟨TO, hTO⟩ : ∃ t, Mt.tyOf s n = t := ⟨_, rfl⟩
  obtain ⟨OK, hOK⟩ : ∃ b, decide (0 ≤ Mt.tyAt s n) = b := ⟨_, rfl⟩
  rw [hTO, hOK]
  unfold Mt.tyOf at hTO
  obtain ⟨k, hk⟩ : ∃ k, Mt.tyAt s n = k := ⟨_, rfl⟩
  rw [hk] at HK hr hTO hOK
  have HTO := Lib.hid (And.intro hTO hOK)
  clear hTO hOK
  obtain ⟨m, hm⟩ : ∃ m, s.types.length = m := ⟨_, rfl⟩
  have HMM := Lib.hid hm
  rw [hm] at hv1 htc hlt hr
  subst hv1
  obtain ⟨w1, hw1⟩ : ∃ u, w.alloc (.cells #[.slice ta m tcap, cv] 25) = u := ⟨_, rfl⟩
  have hb1 : Below w.heap.size w w1 := by rw [← hw1]; exact (Below.refl _ w).alloc (Nat.le_refl _) _
  have hx1 : w1.heap[w.heap.size]? = some (.cells #[.slice ta m tcap, cv] 25) := by rw [← hw1]; exact heap_alloc_new w _
  have hs1 : w1.heap.size = w.heap.size + 1 := by rw [← hw1]; simp
  obtain ⟨w2, hw2⟩ : ∃ u, w1.alloc (.cells #[.string ⟨#[]⟩, .int .i64 0, .bool false, .bool false] 35) = u := ⟨_, rfl⟩
  have hb2 : Below w1.heap.size w1 w2 := by rw [← hw2]; exact (Below.refl _ w1).alloc (Nat.le_refl _) _
  have hx2 : w2.heap[w1.heap.size]? = some (.cells #[.string ⟨#[]⟩, .int .i64 0, .bool false, .bool false] 35) := by rw [← hw2]; exact heap_alloc_new w1 _
  have hs2 : w2.heap.size = w.heap.size + 2 := by rw [← hw2]; simp [hs1]
  rw [hs1] at hx2
  have HB2 := Lib.hid (hb1.trans (hb2.mono (by omega)))
  have HX : Hid (∀ u, Below w2.heap.size w2 u → u.heap[w.heap.size]? = some (.cells #[.slice ta m tcap, cv] 25) ∧ u.heap[w.heap.size + 1]? = some (.cells #[.string ⟨#[]⟩, .int .i64 0, .bool false, .bool false] 35)) := Lib.hid (fun u hu =>
    ⟨(hu.block w.heap.size (by omega)).trans ((hb2.block w.heap.size (by omega)).trans hx1), (hu.block (w.heap.size + 1) (by omega)).trans hx2⟩)
  have p0 : w2.cell? ⟨w.heap.size, 0, none⟩ = some (.slice ta m tcap) := by rw [cell_of_row _ _ _ _ _ _ (HX.out w2 (Below.refl _ _)).1]; rfl
  have p1 : w2.cell? ⟨w.heap.size, 1, none⟩ = some cv := by rw [cell_of_row _ _ _ _ _ _ (HX.out w2 (Below.refl _ _)).1]; rfl
  generalize Mt.str n = N at *
  clear h hn hk hb1 hx1 hb2 hx2 hm
  go_enter Try.func13, Try.ntmps13
  go_wp2_with fail
  refine (HK.out _ HB2.out).mono ?_
  rintro e w3 ⟨rfl, hb⟩
  have HB3 := Lib.hid (HB2.out.trans (hb.mono HB2.out.size))
  obtain ⟨r1, r2⟩ := HX.out w3 (hb.mono (by omega))
  clear p0 p1 hb
  have p0 : w3.cell? ⟨w.heap.size, 0, none⟩ = some (.slice ta m tcap) := by rw [cell_of_row _ _ _ _ _ _ r1]; rfl
  obtain ⟨⟨q0, q1, q2, q3⟩, f0, f1, f2, f3⟩ := box4_of r2
  by_cases hneg : k < 0
  · have d1 : decide (k < 0) = true := decide_eq_true hneg
    have d2 : decide (0 ≤ k) = false := decide_eq_false (by omega)
    have HE : Hid (TO = ⟨[], 0, false, false⟩ ∧ OK = false) := Lib.hid ⟨by rw [← HTO.out.1, if_pos hneg], by rw [← HTO.out.2, d2]⟩
    have hk4 := row4_set r2 (.string ⟨#[]⟩) (.int .i64 0) (.bool false) (.bool false)
    have hb4 : Below w.heap.size w ((((w3.setCell ⟨w.heap.size + 1, 0, none⟩ (.string ⟨#[]⟩)).setCell ⟨w.heap.size + 1, 1, none⟩ (.int .i64 0)).setCell ⟨w.heap.size + 1, 2, none⟩ (.bool false)).setCell ⟨w.heap.size + 1, 3, none⟩ (.bool false)) := (((HB3.out.setCell (p := ⟨w.heap.size + 1, 0, none⟩) (by simp) _).setCell (p := ⟨w.heap.size + 1, 1, none⟩) (by simp) _).setCell (p := ⟨w.heap.size + 1, 2, none⟩) (by simp) _).setCell (p := ⟨w.heap.size + 1, 3, none⟩) (by simp) _
    obtain ⟨w4, hw4⟩ : ∃ u, ((((w3.setCell ⟨w.heap.size + 1, 0, none⟩ (.string ⟨#[]⟩)).setCell ⟨w.heap.size + 1, 1, none⟩ (.int .i64 0)).setCell ⟨w.heap.size + 1, 2, none⟩ (.bool false)).setCell ⟨w.heap.size + 1, 3, none⟩ (.bool false)) = u := ⟨_, rfl⟩
    rw [hw4] at hk4 hb4
    obtain ⟨⟨c0, c1, c2, c3⟩, -⟩ := box4_of hk4
    have HB4 := Lib.hid hb4
    clear hk4 hb4 hneg hr r1 r2
    go_wp2_with fail
    refine bodyPost_ret (v := .tuple #[.agg #[.string ⟨#[]⟩, .int .i64 0, .bool false, .bool false], .bool false]) (by simp [results, Try.results13, go_sem, c0, c1, c2, c3]) rfl ⟨by rw [HE.out.1, HE.out.2]; rfl, HB4.out⟩
  · obtain ⟨x, rfl⟩ := Int.eq_ofNat_of_zero_le (show 0 ≤ k by omega)
    have d1 : decide ((x : Int) < 0) = false := decide_eq_false (by omega)
    have d2 : decide (0 ≤ (x : Int)) = true := decide_eq_true (by omega)
    have hxm : x < m := by omega
    have hxl : x < s.types.length := by rw [HMM.out]; exact hxm
    have hg := Mt.tyI_get hxl
    obtain ⟨b, off, e0, hbl, h0, h1, h2, h3⟩ := HTS.out x hxl
    subst e0
    obtain ⟨t, ht⟩ : ∃ t, s.types[x] = t := ⟨_, rfl⟩
    rw [ht] at h0 h1 h2 h3 hg
    have HE : Hid (TO = t ∧ OK = true) := Lib.hid ⟨by rw [← HTO.out.1, if_neg hneg, hg], by rw [← HTO.out.2, d2]⟩
    have y0 := (HB3.out.cell (p := ⟨b, off + x * 4, none⟩) hbl).trans h0
    have y1 := (HB3.out.cell (p := ⟨b, off + x * 4 + 1, none⟩) hbl).trans h1
    have y2 := (HB3.out.cell (p := ⟨b, off + x * 4 + 2, none⟩) hbl).trans h2
    have y3 := (HB3.out.cell (p := ⟨b, off + x * 4 + 3, none⟩) hbl).trans h3
    have x0 : (0 : Int) ≤ (x : Int) := by omega
    have x1 : (x : Int) < (m : Int) := by omega
    clear h0 h1 h2 h3 ht hg hbl hxl hneg hr
    obtain ⟨NN, hNN⟩ : ∃ x, Mt.str t.name = x := ⟨_, rfl⟩
    obtain ⟨sy, hsy⟩ : ∃ x, t.syn = x := ⟨_, rfl⟩
    obtain ⟨sg, hsg⟩ : ∃ x, t.single = x := ⟨_, rfl⟩
    obtain ⟨op, hop⟩ : ∃ x, t.oper = x := ⟨_, rfl⟩
    rw [hNN] at y0
    rw [hsy] at y1
    rw [hsg] at y2
    rw [hop] at y3
    have HNN := Lib.hid (And.intro hNN (And.intro hsy (And.intro hsg hop)))
    clear hNN hsy hsg hop
    have hk4 := row4_set r2 (.string NN) (.int .i64 sy) (.bool sg) (.bool op)
    have hb4 : Below w.heap.size w ((((w3.setCell ⟨w.heap.size + 1, 0, none⟩ (.string NN)).setCell ⟨w.heap.size + 1, 1, none⟩ (.int .i64 sy)).setCell ⟨w.heap.size + 1, 2, none⟩ (.bool sg)).setCell ⟨w.heap.size + 1, 3, none⟩ (.bool op)) := (((HB3.out.setCell (p := ⟨w.heap.size + 1, 0, none⟩) (by simp) _).setCell (p := ⟨w.heap.size + 1, 1, none⟩) (by simp) _).setCell (p := ⟨w.heap.size + 1, 2, none⟩) (by simp) _).setCell (p := ⟨w.heap.size + 1, 3, none⟩) (by simp) _
    obtain ⟨w4, hw4⟩ : ∃ u, ((((w3.setCell ⟨w.heap.size + 1, 0, none⟩ (.string NN)).setCell ⟨w.heap.size + 1, 1, none⟩ (.int .i64 sy)).setCell ⟨w.heap.size + 1, 2, none⟩ (.bool sg)).setCell ⟨w.heap.size + 1, 3, none⟩ (.bool op)) = u := ⟨_, rfl⟩
    rw [hw4] at hk4 hb4
    obtain ⟨⟨c0, c1, c2, c3⟩, -⟩ := box4_of hk4
    have HB4 := Lib.hid hb4
    clear hk4 hb4 r1 r2
    go_wp2_with fail
    refine bodyPost_ret (v := .tuple #[.agg #[.string NN, .int .i64 sy, .bool sg, .bool op], .bool true]) (by simp [results, Try.results13, go_sem, c0, c1, c2, c3]) rfl ⟨by rw [HE.out.1, HE.out.2, HNN.out.1, HNN.out.2.1, HNN.out.2.2.1, HNN.out.2.2.2], HB4.out⟩
/-- What there is of a name's class. -/
def Mt.clOf (s : Mt.Sc) (n : List UInt8) : Mt.Cl := if Mt.clAt s n < 0 then ⟨[], [], 0, [], []⟩ else Mt.clI s (Mt.clAt s n)
set_option maxRecDepth 100000 in
set_option maxHeartbeats 4000000 in
theorem class13_any {tv cv : Value} {s : Mt.Sc} (n : List UInt8) (hn : n.length ≤ 140737488351232) {w : World} (h : IsSc w tv cv s) :
    Calls Try.prog 14 #[.agg #[tv, cv], .string (Mt.str n)] w fun e w' => ∃ a1 n1 c1 a2 n2 c2, e = .returned (.tuple #[.agg #[.string (Mt.str (Mt.clOf s n).name), .string (Mt.str (Mt.clOf s n).sup), .int .i64 (Mt.clOf s n).kind, .slice a1 n1 c1, .slice a2 n2 c2], .bool (decide (0 ≤ Mt.clAt s n))]) ∧ IsNms w' (.slice a1 n1 c1) (Mt.clOf s n).must ∧ IsNms w' (.slice a2 n2 c2) (Mt.clOf s n).may ∧ Below w.heap.size w w' := by
  have HK := Lib.hid (fun (u : World) (hb : Below w.heap.size w u) => classAt_any n hn (h.below hb))
  have hr := Mt.clAt_range s n
  obtain ⟨ca, ccap, hv1, htc, HCS⟩ := h.classes
  have hlt := h.clen
  have HCM := Lib.hid h.cnm
  obtain ⟨TO, hTO⟩ : ∃ t, Mt.clOf s n = t := ⟨_, rfl⟩
  obtain ⟨OK, hOK⟩ : ∃ b, decide (0 ≤ Mt.clAt s n) = b := ⟨_, rfl⟩
  rw [hTO, hOK]
  unfold Mt.clOf at hTO
  obtain ⟨k, hk⟩ : ∃ k, Mt.clAt s n = k := ⟨_, rfl⟩
  rw [hk] at HK hr hTO hOK
  have HTO := Lib.hid (And.intro hTO hOK)
  clear hTO hOK
  obtain ⟨m, hm⟩ : ∃ m, s.classes.length = m := ⟨_, rfl⟩
  have HMM := Lib.hid hm
  rw [hm] at hv1 htc hlt hr
  subst hv1
  obtain ⟨w1, hw1⟩ : ∃ u, w.alloc (.cells #[tv, .slice ca m ccap] 25) = u := ⟨_, rfl⟩
  have hb1 : Below w.heap.size w w1 := by rw [← hw1]; exact (Below.refl _ w).alloc (Nat.le_refl _) _
  have hx1 : w1.heap[w.heap.size]? = some (.cells #[tv, .slice ca m ccap] 25) := by rw [← hw1]; exact heap_alloc_new w _
  have hs1 : w1.heap.size = w.heap.size + 1 := by rw [← hw1]; simp
  obtain ⟨w2, hw2⟩ : ∃ u, w1.alloc (.cells #[.string ⟨#[]⟩, .string ⟨#[]⟩, .int .i64 0, .slice none 0 0, .slice none 0 0] 31) = u := ⟨_, rfl⟩
  have hb2 : Below w1.heap.size w1 w2 := by rw [← hw2]; exact (Below.refl _ w1).alloc (Nat.le_refl _) _
  have hx2 : w2.heap[w1.heap.size]? = some (.cells #[.string ⟨#[]⟩, .string ⟨#[]⟩, .int .i64 0, .slice none 0 0, .slice none 0 0] 31) := by rw [← hw2]; exact heap_alloc_new w1 _
  have hs2 : w2.heap.size = w.heap.size + 2 := by rw [← hw2]; simp [hs1]
  rw [hs1] at hx2
  have HB2 := Lib.hid (hb1.trans (hb2.mono (by omega)))
  have HX : Hid (∀ u, Below w2.heap.size w2 u → u.heap[w.heap.size]? = some (.cells #[tv, .slice ca m ccap] 25) ∧ u.heap[w.heap.size + 1]? = some (.cells #[.string ⟨#[]⟩, .string ⟨#[]⟩, .int .i64 0, .slice none 0 0, .slice none 0 0] 31)) := Lib.hid (fun u hu =>
    ⟨(hu.block w.heap.size (by omega)).trans ((hb2.block w.heap.size (by omega)).trans hx1), (hu.block (w.heap.size + 1) (by omega)).trans hx2⟩)
  have p0 : w2.cell? ⟨w.heap.size, 0, none⟩ = some tv := by rw [cell_of_row _ _ _ _ _ _ (HX.out w2 (Below.refl _ _)).1]; rfl
  have p1 : w2.cell? ⟨w.heap.size, 1, none⟩ = some (.slice ca m ccap) := by rw [cell_of_row _ _ _ _ _ _ (HX.out w2 (Below.refl _ _)).1]; rfl
  generalize Mt.str n = N at *
  clear h hn hk hb1 hx1 hb2 hx2 hm
  go_enter Try.func14, Try.ntmps14
  go_wp2_with fail
  refine (HK.out _ HB2.out).mono ?_
  rintro e w3 ⟨rfl, hb⟩
  have HB3 := Lib.hid (HB2.out.trans (hb.mono HB2.out.size))
  have HW3 : Hid (Below w2.heap.size w2 w3) := Lib.hid (hb.mono (by omega))
  obtain ⟨r1, r2⟩ := HX.out w3 HW3.out
  clear p0 p1 hb
  have p1 : w3.cell? ⟨w.heap.size, 1, none⟩ = some (.slice ca m ccap) := by rw [cell_of_row _ _ _ _ _ _ r1]; rfl
  by_cases hneg : k < 0
  · have d1 : decide (k < 0) = true := decide_eq_true hneg
    have d2 : decide (0 ≤ k) = false := decide_eq_false (by omega)
    have HE : Hid (TO = ⟨[], [], 0, [], []⟩ ∧ OK = false) := Lib.hid ⟨by rw [← HTO.out.1, if_pos hneg], by rw [← HTO.out.2, d2]⟩
    obtain ⟨⟨q0, q1, q2, q3, q4⟩, f0, f1, f2, f3, f4⟩ := box5_of r2
    have hk4 := row5_set r2 (.string ⟨#[]⟩) (.string ⟨#[]⟩) (.int .i64 0) (.slice none 0 0) (.slice none 0 0)
    have hb4 : Below w.heap.size w (((((w3.setCell ⟨w.heap.size + 1, 0, none⟩ (.string ⟨#[]⟩)).setCell ⟨w.heap.size + 1, 1, none⟩ (.string ⟨#[]⟩)).setCell ⟨w.heap.size + 1, 2, none⟩ (.int .i64 0)).setCell ⟨w.heap.size + 1, 3, none⟩ (.slice none 0 0)).setCell ⟨w.heap.size + 1, 4, none⟩ (.slice none 0 0)) := ((((HB3.out.setCell (p := ⟨w.heap.size + 1, 0, none⟩) (by simp) _).setCell (p := ⟨w.heap.size + 1, 1, none⟩) (by simp) _).setCell (p := ⟨w.heap.size + 1, 2, none⟩) (by simp) _).setCell (p := ⟨w.heap.size + 1, 3, none⟩) (by simp) _).setCell (p := ⟨w.heap.size + 1, 4, none⟩) (by simp) _
    obtain ⟨w4, hw4⟩ : ∃ u, (((((w3.setCell ⟨w.heap.size + 1, 0, none⟩ (.string ⟨#[]⟩)).setCell ⟨w.heap.size + 1, 1, none⟩ (.string ⟨#[]⟩)).setCell ⟨w.heap.size + 1, 2, none⟩ (.int .i64 0)).setCell ⟨w.heap.size + 1, 3, none⟩ (.slice none 0 0)).setCell ⟨w.heap.size + 1, 4, none⟩ (.slice none 0 0)) = u := ⟨_, rfl⟩
    rw [hw4] at hk4 hb4
    obtain ⟨⟨c0, c1, c2, c3, c4⟩, -⟩ := box5_of hk4
    have HB4 := Lib.hid hb4
    clear hk4 hb4 hneg hr r1 r2
    go_wp2_with fail
    refine bodyPost_ret (v := .tuple #[.agg #[.string ⟨#[]⟩, .string ⟨#[]⟩, .int .i64 0, .slice none 0 0, .slice none 0 0], .bool false]) (by simp [results, Try.results14, go_sem, c0, c1, c2, c3, c4]) rfl ⟨none, 0, 0, none, 0, 0, by rw [HE.out.1, HE.out.2]; rfl, by rw [HE.out.1]; exact nms_none w4, by rw [HE.out.1]; exact nms_none w4, HB4.out⟩
  · obtain ⟨x, rfl⟩ := Int.eq_ofNat_of_zero_le (show 0 ≤ k by omega)
    have d1 : decide ((x : Int) < 0) = false := decide_eq_false (by omega)
    have d2 : decide (0 ≤ (x : Int)) = true := decide_eq_true (by omega)
    have hxm : x < m := by omega
    have hxl : x < s.classes.length := by rw [HMM.out]; exact hxm
    have hg := Mt.clI_get hxl
    obtain ⟨b, off, mv, yv, e0, hbl, h0, h1, h2, h3, h4, hmv, hyv⟩ := HCS.out x hxl
    have hcm := HCM.out _ (List.getElem_mem hxl)
    subst e0
    obtain ⟨t, ht⟩ : ∃ t, s.classes[x] = t := ⟨_, rfl⟩
    rw [ht] at h0 h1 h2 hg hmv hyv hcm
    have HE : Hid (TO = t ∧ OK = true) := Lib.hid ⟨by rw [← HTO.out.1, if_neg hneg, hg], by rw [← HTO.out.2, d2]⟩
    obtain ⟨am, cm, rfl, -, -⟩ := id hmv
    obtain ⟨ay, cy, rfl, -, -⟩ := id hyv
    have HMC := Lib.hid (fun (u : World) (hu : Below w.heap.size w u) => cloneN_any (hmv.below hu) hcm.2.2.1)
    have HYC := Lib.hid (fun (u : World) (hu : Below w.heap.size w u) => cloneN_any (hyv.below hu) hcm.2.2.2.1)
    have y0 := (HB3.out.cell (p := ⟨b, off + x * 5, none⟩) hbl).trans h0
    have y1 := (HB3.out.cell (p := ⟨b, off + x * 5 + 1, none⟩) hbl).trans h1
    have y2 := (HB3.out.cell (p := ⟨b, off + x * 5 + 2, none⟩) hbl).trans h2
    have y3 := (HB3.out.cell (p := ⟨b, off + x * 5 + 3, none⟩) hbl).trans h3
    have y4 := (HB3.out.cell (p := ⟨b, off + x * 5 + 4, none⟩) hbl).trans h4
    have x0 : (0 : Int) ≤ (x : Int) := by omega
    have x1 : (x : Int) < (m : Int) := by omega
    obtain ⟨NN, hNN⟩ : ∃ x, Mt.str t.name = x := ⟨_, rfl⟩
    obtain ⟨UU, hUU⟩ : ∃ x, Mt.str t.sup = x := ⟨_, rfl⟩
    obtain ⟨kc, hkc⟩ : ∃ x, t.kind = x := ⟨_, rfl⟩
    rw [hNN] at y0
    rw [hUU] at y1
    rw [hkc] at y2
    have HNN := Lib.hid (And.intro hNN (And.intro hUU hkc))
    obtain ⟨ml, hml⟩ : ∃ q, t.must.length = q := ⟨_, rfl⟩
    obtain ⟨yl, hyl⟩ : ∃ q, t.may.length = q := ⟨_, rfl⟩
    have HML := Lib.hid (And.intro hml hyl)
    rw [hml] at y3 HMC
    rw [hyl] at y4 HYC
    clear hml hyl h0 h1 h2 h3 h4 ht hg hbl hxl hneg hr hmv hyv hcm hNN hUU hkc
    obtain ⟨w4, hw4⟩ : ∃ u, w3.alloc (.cells #[.string NN, .string UU, .int .i64 kc, .slice am ml cm, .slice ay yl cy] 31) = u := ⟨_, rfl⟩
    have hb4 : Below w3.heap.size w3 w4 := by rw [← hw4]; exact (Below.refl _ w3).alloc (Nat.le_refl _) _
    have hx4 : w4.heap[w3.heap.size]? = some (.cells #[.string NN, .string UU, .int .i64 kc, .slice am ml cm, .slice ay yl cy] 31) := by rw [← hw4]; exact heap_alloc_new w3 _
    have hs4 := lt_of_block hx4
    have hs3 := lt_of_block r2
    have HB4 := Lib.hid (HB3.out.trans (hb4.mono HB3.out.size))
    have HQ : Hid (∀ u, Below w4.heap.size w4 u → u.heap[w3.heap.size]? = some (.cells #[.string NN, .string UU, .int .i64 kc, .slice am ml cm, .slice ay yl cy] 31) ∧ u.heap[w.heap.size + 1]? = some (.cells #[.string ⟨#[]⟩, .string ⟨#[]⟩, .int .i64 0, .slice none 0 0, .slice none 0 0] 31) ∧ Below w.heap.size w u) := Lib.hid (fun u hu =>
      ⟨(hu.block _ hs4).trans hx4, (hu.block _ (by have := hb4.size; omega)).trans ((hb4.block _ hs3).trans r2), HB4.out.trans (hu.mono HB4.out.size)⟩)
    clear r1 r2 hb4 hx4
    go_upto_region 5 with fail
    have HYd : Hid (Below w4.heap.size w4 w4.drew) := Lib.hid (Below.refl _ w4).drew
    clear p1 y0 y1 y2 y3 y4
    obtain ⟨⟨-, -, -, z3, z4⟩, -⟩ := box5_of (HQ.out _ HYd.out).1
    go_region_with (first
      | (go_at_call 36; (with_reducible refine (HMC.out _ (HQ.out _ HYd.out).2.2).mono ?_); rintro e w5 ⟨am', mn', mc', rfl, hm5, hb5⟩; have HY5 := Lib.hid (HYd.out.trans (hb5.mono HYd.out.size)); have HM5 := Lib.hid hm5; clear hm5 hb5; obtain ⟨⟨-, -, -, z3, z4⟩, -⟩ := box5_of (HQ.out _ HY5.out).1)
      | (go_at_call 36; (with_reducible refine (HYC.out _ (HQ.out _ HY5.out).2.2).mono ?_); rintro e w6 ⟨ay', yn', yc', rfl, hy6, hb6⟩; have HM6 := Lib.hid (HM5.out.below hb6); have HY6 := Lib.hid (HY5.out.trans (hb6.mono HY5.out.size)); have HN6 := Lib.hid hy6; clear hy6 hb6; obtain ⟨⟨-, -, -, z3, z4⟩, -, -, -, f3, f4⟩ := box5_of (HQ.out _ HY6.out).1))
    all_goals
      obtain ⟨r6, r6b, hB6⟩ := HQ.out _ HY6.out
      have r7 := heap_setCell_same _ w3.heap.size 4 _ 31 (.slice ay' yn' yc') (heap_setCell_same w6 w3.heap.size 3 _ 31 (.slice am' mn' mc') r6)
      have hne : w.heap.size + 1 ≠ w3.heap.size := by omega
      have r7b : ((w6.setCell ⟨w3.heap.size, 3, none⟩ (.slice am' mn' mc')).setCell ⟨w3.heap.size, 4, none⟩ (.slice ay' yn' yc')).heap[w.heap.size + 1]? = some (.cells #[.string ⟨#[]⟩, .string ⟨#[]⟩, .int .i64 0, .slice none 0 0, .slice none 0 0] 31) := by
        rw [heap_setCell_other _ _ _ _ (fun h => hne h), heap_setCell_other _ _ _ _ (fun h => hne h)]; exact r6b
      have hO7 : OnlyS [w3.heap.size] w6 ((w6.setCell ⟨w3.heap.size, 3, none⟩ (.slice am' mn' mc')).setCell ⟨w3.heap.size, 4, none⟩ (.slice ay' yn' yc')) := ((OnlyS.refl _ w6).setCell (by simp) _).setCell (by simp) _
      obtain ⟨w7, hw7⟩ : ∃ u, (w6.setCell ⟨w3.heap.size, 3, none⟩ (.slice am' mn' mc')).setCell ⟨w3.heap.size, 4, none⟩ (.slice ay' yn' yc') = u := ⟨_, rfl⟩
      rw [hw7] at r7 r7b hO7
      have hz4 := HYd.out.size
      have hz5 := HY5.out.size
      have hz3 := HB3.out.size
      have k1 := own_only HM6.out hO7 (by omega)
      have k2 := own_only HN6.out hO7 (by omega)
      rw [← HML.out.1] at k1
      rw [← HML.out.2] at k2
      have hB7 : Below w.heap.size w w7 := hB6.trans (hO7.toBelow (by simp; omega) hB6.size)
      obtain ⟨⟨g0, g1, g2, g3, g4⟩, -⟩ := box5_of r7
      obtain ⟨⟨q0, q1, q2, q3, q4⟩, h0, h1, h2, h3, h4⟩ := box5_of r7b
      have hk4 := row5_set r7b (.string NN) (.string UU) (.int .i64 kc) (.slice am' mn' mc') (.slice ay' yn' yc')
      have hO8 : OnlyS [w.heap.size + 1] w7 (((((w7.setCell ⟨w.heap.size + 1, 0, none⟩ (.string NN)).setCell ⟨w.heap.size + 1, 1, none⟩ (.string UU)).setCell ⟨w.heap.size + 1, 2, none⟩ (.int .i64 kc)).setCell ⟨w.heap.size + 1, 3, none⟩ (.slice am' mn' mc')).setCell ⟨w.heap.size + 1, 4, none⟩ (.slice ay' yn' yc')) := (((((OnlyS.refl _ w7).setCell (by simp) _).setCell (by simp) _).setCell (by simp) _).setCell (by simp) _).setCell (by simp) _
      obtain ⟨w8, hw8⟩ : ∃ u, (((((w7.setCell ⟨w.heap.size + 1, 0, none⟩ (.string NN)).setCell ⟨w.heap.size + 1, 1, none⟩ (.string UU)).setCell ⟨w.heap.size + 1, 2, none⟩ (.int .i64 kc)).setCell ⟨w.heap.size + 1, 3, none⟩ (.slice am' mn' mc')).setCell ⟨w.heap.size + 1, 4, none⟩ (.slice ay' yn' yc')) = u := ⟨_, rfl⟩
      rw [hw8] at hk4 hO8
      have l1 := Lib.hid (IsOwn.nms (own_only k1 hO8 (by omega)))
      have l2 := Lib.hid (IsOwn.nms (own_only k2 hO8 (by omega)))
      have HB8 := Lib.hid (hB7.trans (hO8.toBelow (by simp) hB7.size))
      obtain ⟨⟨c0, c1, c2, c3, c4⟩, -⟩ := box5_of hk4
      clear r6 r6b hB6 r7 r7b hO7 k1 k2 hB7 hk4 hO8 HM6 HN6 z3 z4
      try simp only [hw7]
      go_wp2_with fail
      refine bodyPost_ret (v := .tuple #[.agg #[.string NN, .string UU, .int .i64 kc, .slice am' mn' mc', .slice ay' yn' yc'], .bool true]) (by simp [results, Try.results14, go_sem, c0, c1, c2, c3, c4]) rfl ⟨am', mn', mc', ay', yn', yc', by rw [HE.out.1, HE.out.2, HNN.out.1, HNN.out.2.1, HNN.out.2.2], by rw [HE.out.1]; exact l1.out, by rw [HE.out.1]; exact l2.out, HB8.out⟩
end Go.Proofs.Ytkinemlgifeimaa
