/-
  Some texts of one proof, one behind the other.
-/
import Derived.Test.YtngdbhncafnliaaGreatPk42
import Derived.Test.YtngdbhncafnliaaGreatPk43
set_option linter.unusedVariables false
set_option linter.unusedSimpArgs false

/-
  The document's chain of a class, where nothing is wrong with the schema.
-/
namespace Go.Proofs.YtngdbhncafnliaaGreat
open Go.RowKit

/-- An append whose run is known. -/
theorem oper_append13' {P : Program} {o : Oper} {a : Act} {w : World} {K : Act → World → Prop} {Q : Exit → Act → World → Prop}
    (s x : Operand) (t t' : TypeId) (hop : o.op = Op.call { callee := Callee.builtin Builtin.append, args := #[s, x], argTypes := #[t, t'] })
    (v u : Value) (hs : a.eval s = v) (hx : a.eval x = u) (w0 : World) (hw : w = w0) {v' : Value} {w' : World} (hr : ∀ ty, (Builtin.append_ #[t, t'] ty #[v, u]).run P w0 = .ok v' w')
    (hK : K (a.put o.dst v') w') : Oper.wp P o a w K Q := by
  subst hw
  unfold Oper.wp
  simp [execOp, hop, resolve, invoke, builtin, hs, hx, hr, Result.andThen]
  exact hK
theorem Mt.chain_step {s : Mt.Sc} (h : Mt.chk s = 0) {k : Nat} (hk : k < s.classes.length) : Mt.chainF s s.classes.length (k : Int) = k :: Mt.chainF s s.classes.length (Mt.supAt s k) := by
  obtain ⟨m, hm⟩ : ∃ m, s.classes.length = m + 1 := ⟨s.classes.length - 1, by omega⟩
  have h3 := (Mt.supAt_range (s := s) k).2
  rw [hm, Mt.chainF_pos s m (by omega), Int.toNat_natCast]
  congr 1
  exact Mt.chainF_more s m (m + 1) _ (by omega) (by omega)
end Go.Proofs.YtngdbhncafnliaaGreat

/-
  Names copied; the type and the class of a name.
-/
namespace Go.Proofs.YtngdbhncafnliaaGreat
open Go.RowKit

theorem row4_set {u : World} {b : Nat} {x0 x1 x2 x3 : Value} {T : TypeId} (h : u.heap[b]? = some (.cells #[x0, x1, x2, x3] T)) (v0 v1 v2 v3 : Value) : ((((u.setCell ⟨b, 0, none⟩ v0).setCell ⟨b, 1, none⟩ v1).setCell ⟨b, 2, none⟩ v2).setCell ⟨b, 3, none⟩ v3).heap[b]? = some (.cells #[v0, v1, v2, v3] T) :=
  heap_setCell_same _ b 3 _ T v3 (heap_setCell_same _ b 2 _ T v2 (heap_setCell_same _ b 1 _ T v1 (heap_setCell_same u b 0 _ T v0 h)))
theorem row5_set {u : World} {b : Nat} {x0 x1 x2 x3 x4 : Value} {T : TypeId} (h : u.heap[b]? = some (.cells #[x0, x1, x2, x3, x4] T)) (v0 v1 v2 v3 v4 : Value) : (((((u.setCell ⟨b, 0, none⟩ v0).setCell ⟨b, 1, none⟩ v1).setCell ⟨b, 2, none⟩ v2).setCell ⟨b, 3, none⟩ v3).setCell ⟨b, 4, none⟩ v4).heap[b]? = some (.cells #[v0, v1, v2, v3, v4] T) :=
  heap_setCell_same _ b 4 _ T v4 (heap_setCell_same _ b 3 _ T v3 (heap_setCell_same _ b 2 _ T v2 (heap_setCell_same _ b 1 _ T v1 (heap_setCell_same u b 0 _ T v0 h))))
theorem box4_of {w : World} {b : Nat} {v0 v1 v2 v3 : Value} {T : TypeId} (h : w.heap[b]? = some (.cells #[v0, v1, v2, v3] T)) :
    (w.cell? ⟨b, 0, none⟩ = some v0 ∧ w.cell? ⟨b, 1, none⟩ = some v1 ∧ w.cell? ⟨b, 2, none⟩ = some v2 ∧ w.cell? ⟨b, 3, none⟩ = some v3) ∧
    (w.frozen? ⟨b, 0, none⟩ = false ∧ w.frozen? ⟨b, 1, none⟩ = false ∧ w.frozen? ⟨b, 2, none⟩ = false ∧ w.frozen? ⟨b, 3, none⟩ = false) :=
  ⟨⟨by rw [cell_of_row _ _ _ _ _ _ h]; rfl, by rw [cell_of_row _ _ _ _ _ _ h]; rfl, by rw [cell_of_row _ _ _ _ _ _ h]; rfl, by rw [cell_of_row _ _ _ _ _ _ h]; rfl⟩,
    frozen_of_row _ _ 0 _ _ h, frozen_of_row _ _ 1 _ _ h, frozen_of_row _ _ 2 _ _ h, frozen_of_row _ _ 3 _ _ h⟩
set_option maxRecDepth 100000 in
set_option maxHeartbeats 2000000 in
theorem cloneN_any {w : World} {v : Value} {l : List (List UInt8)} (h : IsNms w v l) (hn : l.length ≤ 8796093022208) :
    Calls Tryz.prog 33 #[v] w fun e w' => ∃ a n c, e = .returned (.slice a n c) ∧ IsOwn 9 1 w.heap.size w' (.slice a n c) l.length (nms l) ∧ Below w.heap.size w w' := by
  obtain ⟨a, cap, rfl, hcap, HC⟩ := id h
  cases a with
  | none =>
    have hl : l = [] := by
      cases l with
      | nil => rfl
      | cons x r => obtain ⟨b, off, e, _⟩ := HC.out 0 (by simp); cases e
    subst hl
    have he : ∀ u : World, (binOp .eql 47 (.slice none 0 cap) (.slice none 0 0)).run Tryz.prog u = .ok (.bool true) u := fun _ => rfl
    clear h HC hcap
    go_enter Tryz.func33, Tryz.ntmps33
    go_wp2_with fail
    all_goals (go_ret; exact ⟨_, _, _, rfl, IsOwn.nil _ _ _ _, Below.refl _ _⟩)
  | some x =>
    have hb : Below w.heap.size w (w.alloc (.cells #[] 9)) := (Below.refl _ w).alloc (Nat.le_refl _) _
    have hx : (w.alloc (.cells #[] 9)).heap[w.heap.size]? = some (.cells #[] 9) := heap_alloc_new w _
    have hoa : IsOwn 9 1 w.heap.size (w.alloc (.cells #[] 9)) (.slice (some ⟨w.heap.size, 0, none⟩) 0 0) ([] : List (List UInt8)).length (nms []) := ⟨w.heap.size, Nat.le_refl _, rfl, .inr ⟨0, 0, #[], rfl, hx, Nat.le_refl _, Nat.le_refl _, fun j hj => absurd hj (by simp [nms])⟩⟩
    obtain ⟨a6, c6, w6, hrun, own6, hb6⟩ := own_cat13 hoa hb.size (h.below hb) (by simp; omega)
    simp only [List.length_nil, Nat.zero_add, List.nil_append] at hrun own6
    have HO := Lib.hid own6
    have HB := Lib.hid (hb.trans hb6)
    clear h HC hcap hb hx hoa own6 hb6
    have he : ∀ u : World, (binOp .eql 47 (.slice (some x) l.length cap) (.slice none 0 0)).run Tryz.prog u = .ok (.bool false) u := fun _ => rfl
    generalize l.length = n at *
    go_enter Tryz.func33, Tryz.ntmps33
    go_wp2_with (refine wpList_append_run rfl (.tmp 5) (.tmp 6) 47 47 rfl (.slice (some ⟨w.heap.size, 0, none⟩) 0 0) (.slice (some x) n cap) rfl rfl hrun ?_; clear hrun)
    all_goals (go_ret; exact ⟨_, _, _, rfl, HO.out, HB.out⟩)
/-- What there is of a name's type. -/
def Mt.tyOf (s : Mt.Sc) (n : List UInt8) : Mt.Ty := if Mt.tyAt s n < 0 then ⟨[], 0, false, false⟩ else Mt.tyI s (Mt.tyAt s n)
set_option maxRecDepth 100000 in
set_option maxHeartbeats 2000000 in
theorem find13_any {tv cv : Value} {s : Mt.Sc} (n : List UInt8) (hn : n.length ≤ 140737488351232) {w : World} (h : IsSc w tv cv s) :
    Calls Tryz.prog 63 #[.agg #[tv, cv], .string (Mt.str n)] w fun e w' => e = .returned (.tuple #[.agg #[.string (Mt.str (Mt.tyOf s n).name), .int .i64 (Mt.tyOf s n).syn, .bool (Mt.tyOf s n).single, .bool (Mt.tyOf s n).oper], .bool (decide (0 ≤ Mt.tyAt s n))]) ∧ Below w.heap.size w w' := by
  have HK := Lib.hid (fun (u : World) (hb : Below w.heap.size w u) => typeAt_any n hn (h.below hb))
  have hr := Mt.tyAt_range s n
  obtain ⟨ta, tcap, hv1, htc, HTS⟩ := h.types
  have hlt := h.tlen
  obtain ⟨TO, hTO⟩ : ∃ t, Mt.tyOf s n = t := ⟨_, rfl⟩
  obtain ⟨OK, hOK⟩ : ∃ b, decide (0 ≤ Mt.tyAt s n) = b := ⟨_, rfl⟩
  rw [hTO, hOK]
  unfold Mt.tyOf at hTO
  obtain ⟨k, hk⟩ : ∃ k, Mt.tyAt s n = k := ⟨_, rfl⟩
  rw [hk] at HK hr hTO hOK
  have HTO := Lib.hid (And.intro hTO hOK)
  clear hTO hOK
  obtain ⟨m, hm⟩ : ∃ m, s.types.length = m := ⟨_, rfl⟩
  have HMM := Lib.hid hm
  rw [hm] at hv1 htc hlt hr
  subst hv1
  obtain ⟨w1, hw1⟩ : ∃ u, w.alloc (.cells #[.slice ta m tcap, cv] 35) = u := ⟨_, rfl⟩
  have hb1 : Below w.heap.size w w1 := by rw [← hw1]; exact (Below.refl _ w).alloc (Nat.le_refl _) _
  have hx1 : w1.heap[w.heap.size]? = some (.cells #[.slice ta m tcap, cv] 35) := by rw [← hw1]; exact heap_alloc_new w _
  have hs1 : w1.heap.size = w.heap.size + 1 := by rw [← hw1]; simp
  obtain ⟨w2, hw2⟩ : ∃ u, w1.alloc (.cells #[.string ⟨#[]⟩, .int .i64 0, .bool false, .bool false] 71) = u := ⟨_, rfl⟩
  have hb2 : Below w1.heap.size w1 w2 := by rw [← hw2]; exact (Below.refl _ w1).alloc (Nat.le_refl _) _
  have hx2 : w2.heap[w1.heap.size]? = some (.cells #[.string ⟨#[]⟩, .int .i64 0, .bool false, .bool false] 71) := by rw [← hw2]; exact heap_alloc_new w1 _
  have hs2 : w2.heap.size = w.heap.size + 2 := by rw [← hw2]; simp [hs1]
  rw [hs1] at hx2
  have HB2 := Lib.hid (hb1.trans (hb2.mono (by omega)))
  have HX : Hid (∀ u, Below w2.heap.size w2 u → u.heap[w.heap.size]? = some (.cells #[.slice ta m tcap, cv] 35) ∧ u.heap[w.heap.size + 1]? = some (.cells #[.string ⟨#[]⟩, .int .i64 0, .bool false, .bool false] 71)) := Lib.hid (fun u hu =>
    ⟨(hu.block w.heap.size (by omega)).trans ((hb2.block w.heap.size (by omega)).trans hx1), (hu.block (w.heap.size + 1) (by omega)).trans hx2⟩)
  have p0 : w2.cell? ⟨w.heap.size, 0, none⟩ = some (.slice ta m tcap) := by rw [cell_of_row _ _ _ _ _ _ (HX.out w2 (Below.refl _ _)).1]; rfl
  have p1 : w2.cell? ⟨w.heap.size, 1, none⟩ = some cv := by rw [cell_of_row _ _ _ _ _ _ (HX.out w2 (Below.refl _ _)).1]; rfl
  generalize Mt.str n = N at *
  clear h hn hk hb1 hx1 hb2 hx2 hm
  go_enter Tryz.func63, Tryz.ntmps63
  go_wp2_with fail
  refine (HK.out _ HB2.out).mono ?_
  rintro e w3 ⟨rfl, hb⟩
  have HB3 := Lib.hid (HB2.out.trans (hb.mono HB2.out.size))
  obtain ⟨r1, r2⟩ := HX.out w3 (hb.mono (by omega))
  clear p0 p1 hb
  have p0 : w3.cell? ⟨w.heap.size, 0, none⟩ = some (.slice ta m tcap) := by rw [cell_of_row _ _ _ _ _ _ r1]; rfl
  obtain ⟨⟨q0, q1, q2, q3⟩, f0, f1, f2, f3⟩ := box4_of r2
  by_cases hneg : k < 0
  · have d1 : decide (k < 0) = true := decide_eq_true hneg
    have d2 : decide (0 ≤ k) = false := decide_eq_false (by omega)
    have HE : Hid (TO = ⟨[], 0, false, false⟩ ∧ OK = false) := Lib.hid ⟨by rw [← HTO.out.1, if_pos hneg], by rw [← HTO.out.2, d2]⟩
    have hk4 := row4_set r2 (.string ⟨#[]⟩) (.int .i64 0) (.bool false) (.bool false)
    have hb4 : Below w.heap.size w ((((w3.setCell ⟨w.heap.size + 1, 0, none⟩ (.string ⟨#[]⟩)).setCell ⟨w.heap.size + 1, 1, none⟩ (.int .i64 0)).setCell ⟨w.heap.size + 1, 2, none⟩ (.bool false)).setCell ⟨w.heap.size + 1, 3, none⟩ (.bool false)) := (((HB3.out.setCell (p := ⟨w.heap.size + 1, 0, none⟩) (by simp) _).setCell (p := ⟨w.heap.size + 1, 1, none⟩) (by simp) _).setCell (p := ⟨w.heap.size + 1, 2, none⟩) (by simp) _).setCell (p := ⟨w.heap.size + 1, 3, none⟩) (by simp) _
    obtain ⟨w4, hw4⟩ : ∃ u, ((((w3.setCell ⟨w.heap.size + 1, 0, none⟩ (.string ⟨#[]⟩)).setCell ⟨w.heap.size + 1, 1, none⟩ (.int .i64 0)).setCell ⟨w.heap.size + 1, 2, none⟩ (.bool false)).setCell ⟨w.heap.size + 1, 3, none⟩ (.bool false)) = u := ⟨_, rfl⟩
    rw [hw4] at hk4 hb4
    obtain ⟨⟨c0, c1, c2, c3⟩, -⟩ := box4_of hk4
    have HB4 := Lib.hid hb4
    clear hk4 hb4 hneg hr r1 r2
    go_wp2_with fail
    refine bodyPost_ret (v := .tuple #[.agg #[.string ⟨#[]⟩, .int .i64 0, .bool false, .bool false], .bool false]) (by simp [results, Tryz.results63, go_sem, c0, c1, c2, c3]) rfl ⟨by rw [HE.out.1, HE.out.2]; rfl, HB4.out⟩
  · obtain ⟨x, rfl⟩ := Int.eq_ofNat_of_zero_le (show 0 ≤ k by omega)
    have d1 : decide ((x : Int) < 0) = false := decide_eq_false (by omega)
    have d2 : decide (0 ≤ (x : Int)) = true := decide_eq_true (by omega)
    have hxm : x < m := by omega
    have hxl : x < s.types.length := by rw [HMM.out]; exact hxm
    have hg := Mt.tyI_get hxl
    obtain ⟨b, off, e0, hbl, h0, h1, h2, h3⟩ := HTS.out x hxl
    subst e0
    obtain ⟨t, ht⟩ : ∃ t, s.types[x] = t := ⟨_, rfl⟩
    rw [ht] at h0 h1 h2 h3 hg
    have HE : Hid (TO = t ∧ OK = true) := Lib.hid ⟨by rw [← HTO.out.1, if_neg hneg, hg], by rw [← HTO.out.2, d2]⟩
    have y0 := (HB3.out.cell (p := ⟨b, off + x * 4, none⟩) hbl).trans h0
    have y1 := (HB3.out.cell (p := ⟨b, off + x * 4 + 1, none⟩) hbl).trans h1
    have y2 := (HB3.out.cell (p := ⟨b, off + x * 4 + 2, none⟩) hbl).trans h2
    have y3 := (HB3.out.cell (p := ⟨b, off + x * 4 + 3, none⟩) hbl).trans h3
    have x0 : (0 : Int) ≤ (x : Int) := by omega
    have x1 : (x : Int) < (m : Int) := by omega
    clear h0 h1 h2 h3 ht hg hbl hxl hneg hr
    obtain ⟨NN, hNN⟩ : ∃ x, Mt.str t.name = x := ⟨_, rfl⟩
    obtain ⟨sy, hsy⟩ : ∃ x, t.syn = x := ⟨_, rfl⟩
    obtain ⟨sg, hsg⟩ : ∃ x, t.single = x := ⟨_, rfl⟩
    obtain ⟨op, hop⟩ : ∃ x, t.oper = x := ⟨_, rfl⟩
    rw [hNN] at y0
    rw [hsy] at y1
    rw [hsg] at y2
    rw [hop] at y3
    have HNN := Lib.hid (And.intro hNN (And.intro hsy (And.intro hsg hop)))
    clear hNN hsy hsg hop
    have hk4 := row4_set r2 (.string NN) (.int .i64 sy) (.bool sg) (.bool op)
    have hb4 : Below w.heap.size w ((((w3.setCell ⟨w.heap.size + 1, 0, none⟩ (.string NN)).setCell ⟨w.heap.size + 1, 1, none⟩ (.int .i64 sy)).setCell ⟨w.heap.size + 1, 2, none⟩ (.bool sg)).setCell ⟨w.heap.size + 1, 3, none⟩ (.bool op)) := (((HB3.out.setCell (p := ⟨w.heap.size + 1, 0, none⟩) (by simp) _).setCell (p := ⟨w.heap.size + 1, 1, none⟩) (by simp) _).setCell (p := ⟨w.heap.size + 1, 2, none⟩) (by simp) _).setCell (p := ⟨w.heap.size + 1, 3, none⟩) (by simp) _
    obtain ⟨w4, hw4⟩ : ∃ u, ((((w3.setCell ⟨w.heap.size + 1, 0, none⟩ (.string NN)).setCell ⟨w.heap.size + 1, 1, none⟩ (.int .i64 sy)).setCell ⟨w.heap.size + 1, 2, none⟩ (.bool sg)).setCell ⟨w.heap.size + 1, 3, none⟩ (.bool op)) = u := ⟨_, rfl⟩
    rw [hw4] at hk4 hb4
    obtain ⟨⟨c0, c1, c2, c3⟩, -⟩ := box4_of hk4
    have HB4 := Lib.hid hb4
    clear hk4 hb4 r1 r2
    go_wp2_with fail
    refine bodyPost_ret (v := .tuple #[.agg #[.string NN, .int .i64 sy, .bool sg, .bool op], .bool true]) (by simp [results, Tryz.results63, go_sem, c0, c1, c2, c3]) rfl ⟨by rw [HE.out.1, HE.out.2, HNN.out.1, HNN.out.2.1, HNN.out.2.2.1, HNN.out.2.2.2], HB4.out⟩
/-- What there is of a name's class. -/
def Mt.clOf (s : Mt.Sc) (n : List UInt8) : Mt.Cl := if Mt.clAt s n < 0 then ⟨[], [], 0, [], []⟩ else Mt.clI s (Mt.clAt s n)
end Go.Proofs.YtngdbhncafnliaaGreat
