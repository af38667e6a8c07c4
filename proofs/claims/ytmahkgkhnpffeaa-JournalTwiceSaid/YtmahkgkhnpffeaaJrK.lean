/-
  A journal whose memory is kept, or written; what become comes to; sectors written one behind the other.
-/
import Derived.Test.YtmahkgkhnpffeaaJrJ
namespace Go.Proofs.Ytmahkgkhnpffeaa
open Go.RowKit

theorem Mt.lose_len (d : Mt.Dk) (a : Nat) (b c : Int) : (d.lose a b c).lasts.length = d.lasts.length := Mt.loseK_length ..
theorem Mt.count_len (d : Mt.Dk) : d.count.1.lasts.length = d.lasts.length := by
  unfold Mt.Dk.count
  split
  · rfl
  · split
    · exact Mt.lose_len _ _ _ _
    · rfl
theorem Mt.write_len (d : Mt.Dk) (i : Int) (s : List UInt8) : (d.write i s).1.lasts.length = d.lasts.length := by
  unfold Mt.Dk.write
  split
  · split
    · split
      · exact Mt.count_len _
      · rfl
    · rfl
  · rfl
theorem Mt.flush_len (d : Mt.Dk) (h : d.Ok) : d.flush.1.lasts.length = d.lasts.length := by
  unfold Mt.Dk.flush
  split
  · rfl
  · split
    · exact (Mt.over_length _ _ h.count.len).trans (Mt.count_len d)
    · exact Mt.count_len _

/-! ### sectors, one behind the other -/
theorem Mt.wrS_len : ∀ (l : List (List UInt8)) (d : Mt.Dk) (a : Nat), (Mt.wrS d a l).1.lasts.length = d.lasts.length
  | [], _, _ => rfl
  | s :: r, d, a => by
    unfold Mt.wrS
    split
    · rw [Mt.wrS_len r, Mt.write_len]
    · exact Mt.write_len _ _ _
theorem Mt.wrS_snoc : ∀ (l : List (List UInt8)) (s : List UInt8) (d : Mt.Dk) (a : Nat), (Mt.wrS d a l).2 = 0 → Mt.wrS d a (l ++ [s]) = (Mt.wrS d a l).1.write ((a + l.length : Nat) : Int) s
  | [], s, d, a, _ => by
    simp only [List.nil_append, Mt.wrS, List.length_nil, Nat.add_zero]
    split
    · rename_i h; rw [← h]
    · rfl
  | x :: r, s, d, a, h => by
    simp only [List.cons_append, Mt.wrS] at h ⊢
    split at h
    · rename_i hx
      rw [if_pos hx, if_pos hx, Mt.wrS_snoc r s _ _ h, List.length_cons, show a + 1 + r.length = a + (r.length + 1) by omega]
    · rename_i hx; exact absurd h hx
theorem Mt.wrS_stop : ∀ (l m : List (List UInt8)) (d : Mt.Dk) (a : Nat), (Mt.wrS d a l).2 ≠ 0 → Mt.wrS d a (l ++ m) = Mt.wrS d a l
  | [], m, d, a, h => absurd rfl h
  | x :: r, m, d, a, h => by
    simp only [List.cons_append, Mt.wrS] at h ⊢
    split at h
    · rename_i hx; rw [if_pos hx, if_pos hx, Mt.wrS_stop r m _ _ h]
    · rename_i hx; rw [if_neg hx, if_neg hx]
theorem Mt.wrS_succ (l : List (List UInt8)) (d : Mt.Dk) (a k : Nat) (hk : k < l.length) (h : (Mt.wrS d a (l.take k)).2 = 0) : Mt.wrS d a (l.take (k + 1)) = (Mt.wrS d a (l.take k)).1.write ((a + k : Nat) : Int) l[k] := by
  rw [List.take_succ_eq_append_getElem hk, Mt.wrS_snoc _ _ _ _ h, List.length_take, Nat.min_eq_left (by omega)]
theorem Mt.wrS_end (l : List (List UInt8)) (d : Mt.Dk) (a k : Nat) (h : (Mt.wrS d a (l.take k)).2 ≠ 0) : Mt.wrS d a l = Mt.wrS d a (l.take k) := by
  have e := Mt.wrS_stop (l.take k) (l.drop k) d a h
  rwa [List.take_append_drop] at e

section
variable {w u : World} {J B bl bm : Nat} {j : Mt.Jn} {d : Mt.Dk}
theorem JD.lt (h : JD w J B bl bm j d) : J < w.heap.size ∧ B < w.heap.size ∧ bl < w.heap.size ∧ bm < w.heap.size := ⟨lt_of_block h.jn, h.dk.ltB, h.dk.ltL, h.dk.ltM⟩
theorem JD.kept (h : JD w J B bl bm j d) (h0 : u.heap[J]? = w.heap[J]?) (h1 : u.heap[B]? = w.heap[B]?) (h2 : u.heap[bl]? = w.heap[bl]?) (h3 : u.heap[bm]? = w.heap[bm]?) : JD u J B bl bm j d :=
  ⟨h0.trans h.jn, h.dk.kept h1 h2 h3, h.four, h.half, h.head, h.gen, h.used, h.count⟩
theorem JD.only (h : JD w J B bl bm j d) {S : List Nat} (ho : OnlyS S w u) (h0 : J ∉ S) (h1 : B ∉ S) (h2 : bl ∉ S) (h3 : bm ∉ S) : JD u J B bl bm j d :=
  h.kept (ho.block _ h.lt.1 h0) (ho.block _ h.lt.2.1 h1) (ho.block _ h.lt.2.2.1 h2) (ho.block _ h.lt.2.2.2 h3)
/-- The disk was written. -/
theorem JD.disk (h : JD w J B bl bm j d) {e : Mt.Dk} (hd : IsDisk u B bl bm e) (ho : OnlyS [B, bl, bm] w u) (hl : e.lasts.length = d.lasts.length) : JD u J B bl bm j e :=
  ⟨(ho.block _ h.lt.1 (by have := h.neJ; simp; omega)).trans h.jn, hd, by rw [hl]; exact h.four, h.half, h.head, h.gen, h.used, h.count⟩
/-- The journal was written. -/
theorem JD.put (h : JD w J B bl bm j d) {i : Mt.Jn} (hj : IsJ u J B i) (ho : OnlyS [J] w u) (h1 : i.half ≤ 1) (h2 : i.head ≤ 1) (h3 : i.gen ≤ 4294967296) (h4 : i.used ≤ 8192) (h5 : i.count ≤ 8192) : JD u J B bl bm i d :=
  ⟨hj, h.dk.only ho (by have := h.neJ; simp; omega) (by have := h.neJ; simp; omega) (by have := h.neJ; simp; omega), h.four, h1, h2, h3, h4, h5⟩
theorem IsJ.set (h : IsJ w J B j) (i : Nat) (v : Value) (n : Mt.Jn) (hc : (jnV B j).setIfInBounds i v = jnV B n) : IsJ (w.setCell ⟨J, i, none⟩ v) J B n := by
  unfold IsJ at h ⊢
  rw [heap_setCell_same w J i _ _ v h, hc]
/-- All of a journal is written. -/
theorem IsJ.whole (h : IsJ w J B j) (n : Mt.Jn) : IsJ (((((((w.setCell ⟨J, 0, none⟩ (.pointer (some ⟨B, 0, none⟩))).setCell ⟨J, 1, none⟩ (.int .u64 (n.gen : Int))).setCell ⟨J, 2, none⟩ (.int .i64 (n.half : Int))).setCell ⟨J, 3, none⟩ (.int .i64 (n.head : Int))).setCell ⟨J, 4, none⟩ (.int .i64 (n.count : Int))).setCell ⟨J, 5, none⟩ (.int .i64 (n.used : Int))).setCell ⟨J, 6, none⟩ (.bool n.closed)) J B n := by
  have h0 := h.set 0 (.pointer (some ⟨B, 0, none⟩)) j rfl
  have h1 := h0.set 1 (.int .u64 (n.gen : Int)) { j with gen := n.gen } rfl
  have h2 := h1.set 2 (.int .i64 (n.half : Int)) { j with gen := n.gen, half := n.half } rfl
  have h3 := h2.set 3 (.int .i64 (n.head : Int)) { j with gen := n.gen, half := n.half, head := n.head } rfl
  have h4 := h3.set 4 (.int .i64 (n.count : Int)) { j with gen := n.gen, half := n.half, head := n.head, count := n.count } rfl
  have h5 := h4.set 5 (.int .i64 (n.used : Int)) { j with gen := n.gen, half := n.half, head := n.head, count := n.count, used := n.used } rfl
  exact h5.set 6 (.bool n.closed) n rfl
theorem only_jn (w : World) (J : Nat) (a b c d e f g : Value) : OnlyS [J] w (((((((w.setCell ⟨J, 0, none⟩ a).setCell ⟨J, 1, none⟩ b).setCell ⟨J, 2, none⟩ c).setCell ⟨J, 3, none⟩ d).setCell ⟨J, 4, none⟩ e).setCell ⟨J, 5, none⟩ f).setCell ⟨J, 6, none⟩ g) :=
  (((((((OnlyS.refl _ _).setCell (by simp) _).setCell (by simp) _).setCell (by simp) _).setCell (by simp) _).setCell (by simp) _).setCell (by simp) _).setCell (by simp) _
theorem box7_of {w : World} {b : Nat} {x y z u v s t : Value} {T : TypeId} {fr : Nat × Nat} (h : w.heap[b]? = some (.cells #[x, y, z, u, v, s, t] T fr)) : w.cell? ⟨b, 0, none⟩ = some x ∧ w.cell? ⟨b, 1, none⟩ = some y ∧ w.cell? ⟨b, 2, none⟩ = some z ∧ w.cell? ⟨b, 3, none⟩ = some u ∧ w.cell? ⟨b, 4, none⟩ = some v ∧ w.cell? ⟨b, 5, none⟩ = some s ∧ w.cell? ⟨b, 6, none⟩ = some t := by
  simp [World.cell?, h]

set_option maxRecDepth 100000 in
theorem become_any (h : IsJ w J B j) (n : Mt.Jn) (x : Int) : Calls Try.prog 27 #[.pointer (some ⟨J, 0, none⟩), .agg (jnV B n), .int .i64 x] w fun e w' => e = .returned (.int .i64 (j.become n x).2) ∧ IsJ w' J B (j.become n x).1 ∧ OnlyS [J] w w' := by
  have hw := (Below.refl w.heap.size w).alloc (Nat.le_refl _) (.cells (jnV B n) 55)
  have hj := h.below hw
  have HJ := Lib.hid hj
  obtain ⟨c0, c1, c2, c3, c4, c5, c6⟩ := hj.cells
  have f0 := hj.frozen 0
  have f1 := hj.frozen 1
  have f2 := hj.frozen 2
  have f3 := hj.frozen 3
  have f4 := hj.frozen 4
  have f5 := hj.frozen 5
  have f6 := hj.frozen 6
  have HO := Lib.hid (Below.onlyS (S := [J]) hw (Nat.le_refl _))
  have hx := heap_alloc_new w (.cells (jnV B n) 55)
  obtain ⟨k0, k1, k2, k3, k4, k5, k6⟩ := box7_of hx
  have HNE : Hid (J ≠ w.heap.size) := Lib.hid (by have := lt_of_block h; omega)
  clear hw hj hx h
  unfold jnV at *
  by_cases hx : x = 0
  · subst hx
    have HR := Lib.hid (show j.become n 0 = (n, 0) from rfl)
    go_enter Try.func27, Try.ntmps27
    go_wp2_with fail
    go_ret
    refine ⟨Mt.ret_int (by rw [HR.out]), ?_, ?_⟩
    · rw [HR.out]; exact HJ.out.whole n
    · exact HO.out.trans (only_jn _ _ _ _ _ _ _ _ _)
  · have hd : (x == 0) = false := by simpa using hx
    have HR := Lib.hid (show j.become n x = ({ j with closed := true }, x) by unfold Mt.Jn.become; rw [if_neg hx])
    have HJ' : Hid (IsJ ((w.alloc (.cells (jnV B n) 55)).setCell ⟨J, 6, none⟩ (.bool true)) J B { j with closed := true }) := Lib.hid (HJ.out.set 6 (.bool true) { j with closed := true } rfl)
    clear hx
    go_enter Try.func27, Try.ntmps27
    go_wp2_with fail
    go_ret
    refine ⟨Mt.ret_int (by rw [HR.out]), ?_, ?_⟩
    · rw [HR.out]; exact HJ'.out
    · exact HO.out.setCell (by simp) _
end
end Go.Proofs.Ytmahkgkhnpffeaa
