/-
  What is left of bytes that were read; one node more, or what stands for none, behind those that were made.
-/
import Derived.Test.YtcijjblcoelabaaTvL
set_option linter.unusedVariables false
set_option linter.unusedSimpArgs false
namespace Go.Proofs.Ytcijjblcoelabaa
open Go.RowKit
/-- The bytes from a place to an end. -/
def Mt.sub (s : ByteArray) (a b : Nat) : List UInt8 := (s.data.toList.drop a).take (b - a)
theorem Mt.str_sub (s : ByteArray) (a b : Nat) : s.extract a b = Mt.str (Mt.sub s a b) := by
  apply ByteArray.ext
  simp [Mt.sub, Mt.str, ByteArray.data_extract, ← Array.toList_extract]
theorem Mt.sub_length (s : ByteArray) (a b : Nat) (h : b ≤ s.size) : (Mt.sub s a b).length = b - a := by
  have hs : s.data.toList.length = s.size := rfl
  rw [Mt.sub, List.length_take, List.length_drop, hs]; omega
theorem Mt.lenL_suffix {l : List UInt8} {n : Nat} {x : List UInt8} (h : Mt.lenL l = .ok (n, x)) : x <:+ l := by
  match l with
  | [] => simp [Mt.lenL] at h
  | c :: r =>
    simp only [Mt.lenL] at h
    split at h
    · simp at h; obtain ⟨_, rfl⟩ := h; exact List.suffix_cons _ _
    · split at h
      · cases h
      · split at h
        · cases h
        · split at h
          · cases h
          · simp at h; obtain ⟨_, rfl⟩ := h; exact (List.drop_suffix _ _).trans (List.suffix_cons _ _)
theorem Mt.splitL_suffix {l : List UInt8} {t : Nat} {d x : List UInt8} (h : Mt.splitL l = .ok (t, d, x)) : x <:+ l := by
  match l with
  | [] => simp [Mt.splitL] at h
  | c :: r =>
    simp only [Mt.splitL] at h
    split at h
    · cases h
    · split at h
      · cases h
      · rename_i n y hy
        split at h
        · cases h
        · simp at h
          obtain ⟨_, _, rfl⟩ := h
          exact ((List.drop_suffix _ _).trans (Mt.lenL_suffix hy)).trans (List.suffix_cons _ _)
theorem Mt.parseL_suffix {d : Nat} {l : List UInt8} {n : Mt.Nd} {x : List UInt8} (h : Mt.parseL d l = .ok (n, x)) : x <:+ l := by
  match d with
  | 0 => simp [Mt.parseL] at h
  | d + 1 =>
    simp only [Mt.parseL] at h
    split at h
    · cases h
    · rename_i t data rest hs
      have := Mt.splitL_suffix hs
      split at h
      · simp at h; obtain ⟨_, rfl⟩ := h; exact this
      · split at h
        · cases h
        · simp at h; obtain ⟨_, rfl⟩ := h; exact this
theorem Mt.sub_suffix {s : ByteArray} {a b : Nat} {r : List UInt8} (h : r <:+ Mt.sub s a b) (ha : a ≤ b) (hb : b ≤ s.size) : r = Mt.sub s (b - r.length) b := by
  have hl := Mt.sub_length s a b hb
  have hr := h.length_le
  have h1 := List.suffix_iff_eq_drop.1 h
  have h2 : ∀ k, k ≤ b - a → (Mt.sub s a b).drop k = Mt.sub s (a + k) b := fun k hk => by
    rw [Mt.sub, Mt.sub, List.drop_take, List.drop_drop, show b - (a + k) = b - a - k by omega]
  rw [h2 _ (by omega)] at h1
  rw [hl] at h1
  rw [show b - r.length = a + (b - a - r.length) by omega]
  exact h1

/-- One more, of any three cells. -/
theorem row_step {w2 : World} {g k : Nat} {a2 : Option Addr} {c2 : Nat} {xs : List Value} (hrw : IsRw 76 3 w2 g (.slice a2 k c2) k xs) (h1 : ∀ u ∈ xs, u.oneCell' = true) {x0 x1 x2 : Value} (o0 : x0.oneCell' = true) (o1 : x1.oneCell' = true) (o2 : x2.oneCell' = true) (hlen : (k + 1) * 48 ≤ 140737488355328) :
    ∃ a3 c3 w3, (∀ ty, (Builtin.append_ #[74, 74] ty #[.slice a2 k c2, .slice (some ⟨w2.heap.size, 0, none⟩) 1 1]).run Try.prog (w2.alloc (.cells #[x0, x1, x2] 76)) = .ok (.slice a3 (k + 1) c3) w3) ∧ OnlyS [g] w2 w3 := by
  obtain ⟨i0, hi, hz0, hz1, hz2⟩ := info_parts Try.infoNode
  have hbel := (Below.refl w2.heap.size w2).alloc (Nat.le_refl _) (.cells #[x0, x1, x2] 76)
  have hone : ∀ u ∈ [x0, x1, x2], u.oneCell' = true := fun u hu => by
    simp at hu
    rcases hu with rfl | rfl | rfl <;> assumption
  have src : Src Try.prog i0.size 74 (.slice (some ⟨w2.heap.size, 0, none⟩) 1 1) 1 [x0, x1, x2] (w2.alloc (.cells #[x0, x1, x2] 76)) :=
    Src.ofSlice _ Try.underlying74 ⟨w2.heap.size, 0, none⟩ 1 1 _ (by rw [hz1]; rfl) (fun j u hu => by
      rw [add_off, cell_of_row _ w2.heap.size _ _ _ _ (heap_alloc_new w2 _), Nat.zero_add]
      simpa using hu) hone
  obtain ⟨v', w', g', hrun, hrw', _, ho⟩ := rw_append (T := 74) (tx := 74) Try.underlying74 hi hz0 hz1 hz2 rfl (hrw.below hbel) h1 _ 1 [x0, x1, x2] src (by omega) (by omega)
  obtain ⟨a3, c3, rfl⟩ := hrw'.form
  exact ⟨a3, c3, w', hrun, ho.os.trans hbel.os, ho.tape.trans hbel.tape, ho.output.trans hbel.output, Nat.le_trans hbel.size ho.size, fun b hb hS => (ho.block b (Nat.lt_of_lt_of_le hb hbel.size) hS).trans (hbel.block b hb)⟩

/-- One tree more, made by a call that turns one block, behind those that were made. -/
theorem nds_stepO {w w2 : World} {base h g k R : Nat} {a2 : Option Addr} {c2 : Nat} {xs : List Value} {ns : List Mt.Nd} (hrw : IsRw 76 3 w g (.slice a2 k c2) k xs) (hn : AreNds w (fun b => base ≤ b ∧ b ≠ g) h xs ns) (hk : k = ns.length) (hg : base ≤ g) (hbase : base ≤ w.heap.size) (hR : R < base)
    {n : Mt.Nd} {x0 x1 x2 : Value} (hx : IsNd w2 (fun b => w.heap.size ≤ b) h (.agg #[x0, x1, x2]) n) (ho : OnlyS [R] w w2) (hlen : (k + 1) * 48 ≤ 140737488355328) :
    ∃ a3 c3 w3 g3 xs3, (∀ ty, (Builtin.append_ #[74, 74] ty #[.slice a2 k c2, .slice (some ⟨w2.heap.size, 0, none⟩) 1 1]).run Try.prog (w2.alloc (.cells #[x0, x1, x2] 76)) = .ok (.slice a3 (k + 1) c3) w3) ∧ IsRw 76 3 w3 g3 (.slice a3 (k + 1) c3) (k + 1) xs3 ∧
      AreNds w3 (fun b => base ≤ b ∧ b ≠ g3) h xs3 (ns ++ [n]) ∧ base ≤ g3 ∧ Below base w2 w3 := by
  subst hk
  have hsz := ho.size
  have hkeep : ∀ b, base ≤ b → b < w.heap.size → w2.heap[b]? = w.heap[b]? := fun b hb hlt => ho.block b hlt (by simp; omega)
  have hnorm : ∃ g2, IsRw 76 3 w2 g2 (.slice a2 ns.length c2) ns.length xs ∧ AreNds w2 (fun b => base ≤ b ∧ b ≠ g2) h xs ns ∧ base ≤ g2 ∧ IsNd w2 (fun b => base ≤ b ∧ b ≠ g2) h (.agg #[x0, x1, x2]) n := by
    rcases hrw.norm (w2.heap.size + base + 1) with hg1 | hrw1
    · exact ⟨g, hrw.other ho (by simp; omega), hn.keep (fun _ h _ => h) (fun b hb hlt => hkeep b hb.1 hlt), hg, hx.mono (Nat.le_refl _) (fun b hb _ => ⟨by omega, by omega⟩)⟩
    · exact ⟨_, hrw1.other ho (by simp; omega), hn.keep (fun b h hlt => ⟨h.1, by omega⟩) (fun b hb hlt => hkeep b hb.1 hlt), by omega, hx.mono (Nat.le_refl _) (fun b hb hlt => ⟨by omega, by omega⟩)⟩
  obtain ⟨g2, hrw2, hnds2, hg2, hn2⟩ := hnorm
  obtain ⟨v3, w3, g3, hrun, hrw3, hnds3, hg3, ho3, _⟩ := nds_append hrw2 hnds2 hg2 (by omega) hn2 hlen
  obtain ⟨a3, c3, rfl⟩ := hrw3.form
  rw [List.length_append, List.length_singleton] at hrw3 hrun
  exact ⟨a3, c3, w3, g3, _, hrun, hrw3, hnds3, hg3, ho3.toBelow (by simpa using hg2) (by omega)⟩
/-- What the loop over the kids keeps. -/
def KidsR (w : World) (R N : Nat) (s : ByteArray) (st d tg : Nat) (D : List UInt8) (wr : World) : Prop :=
  ∃ pk bad a c m, IsRd wr R s pk bad ∧ OnlyS [R] w wr ∧ wr.heap[w.heap.size]? = some (.cells #[.int .i64 0, .string ⟨#[]⟩, .slice none 0 0] 76 (0, 0)) ∧
    wr.heap[N]? = some (.cells #[.int .i64 (tg : Int), .string ⟨#[]⟩, .slice a m c] 76 (0, 0)) ∧
    ((bad = 0 ∧ pk ≤ st ∧ ∃ done g xs, m = done.length ∧ Mt.allL (Mt.parseL d) D.length D = Mt.onto done (Mt.allL (Mt.parseL d) (Mt.sub s pk st).length (Mt.sub s pk st)) ∧ IsRw 76 3 wr g (.slice a done.length c) done.length xs ∧ AreNds wr (fun b => N + 1 ≤ b ∧ b ≠ g) d xs done ∧ N + 1 ≤ g ∧ done.length + (st - pk) ≤ 1048576) ∨
     (bad ≠ 0 ∧ Mt.allL (Mt.parseL d) D.length D = .error bad))
/-- How far the loop is from its end. -/
def rdMeas (R st : Nat) (u : World) : Nat :=
  match u.cell? ⟨R, 2, none⟩, u.cell? ⟨R, 1, none⟩ with
  | some (.int _ b), some (.int _ x) => if b = 0 then st - x.toNat + 1 else 0
  | _, _ => 0
theorem rdMeas_of {u : World} {R st pk bad : Nat} {s : ByteArray} (h : IsRd u R s pk bad) : rdMeas R st u = if bad = 0 then st - pk + 1 else 0 := by
  have h1 := cell_of_row u R 1 _ _ _ h
  have h2 := cell_of_row u R 2 _ _ _ h
  have e1 : u.cell? ⟨R, 1, none⟩ = some (.int .i64 (pk : Int)) := h1
  have e2 : u.cell? ⟨R, 2, none⟩ = some (.int .i64 (bad : Int)) := h2
  unfold rdMeas
  rw [e1, e2]
  simp only [Int.toNat_natCast]
  by_cases hb : bad = 0
  · rw [if_pos hb, if_pos (by omega)]
  · rw [if_neg hb, if_neg (by omega)]
theorem OnlyS.past {S : List Nat} {w u v : World} {D : Nat} (ho : OnlyS S w u) (hb : Below D u v) (hD : w.heap.size ≤ D) : OnlyS S w v :=
  ⟨hb.os.trans ho.os, hb.tape.trans ho.tape, hb.output.trans ho.output, Nat.le_trans ho.size hb.size, fun k hk hS => (hb.block k (by omega)).trans (ho.block k hk hS)⟩
section
variable {w wr w2 : World} {R N : Nat} {s : ByteArray} {st d tg pk : Nat} {D : List UInt8} {a : Option Addr} {c g : Nat} {done : List Mt.Nd} {xs : List Value} {x0 x1 x2 : Value}
/-- Behind a kid that is none. -/
theorem kids_bad {e p' : Nat} (hRW : R < w.heap.size) (hW : w.heap.size < N) (ho : OnlyS [R] w wr) (hbx : wr.heap[w.heap.size]? = some (.cells #[.int .i64 0, .string ⟨#[]⟩, .slice none 0 0] 76 (0, 0)))
    (hN : wr.heap[N]? = some (.cells #[.int .i64 (tg : Int), .string ⟨#[]⟩, .slice a done.length c] 76 (0, 0))) (hrw : IsRw 76 3 wr g (.slice a done.length c) done.length xs) (h1 : ∀ u ∈ xs, u.oneCell' = true) (hg : N + 1 ≤ g) (hlen : done.length ≤ 1048576)
    (hall : Mt.allL (Mt.parseL d) D.length D = Mt.onto done (Mt.allL (Mt.parseL d) (Mt.sub s pk st).length (Mt.sub s pk st))) (hne : Mt.sub s pk st ≠ []) (hp : Mt.parseL d (Mt.sub s pk st) = .error e)
    (o0 : x0.oneCell' = true) (o1 : x1.oneCell' = true) (o2 : x2.oneCell' = true) (hr2 : IsRd w2 R s p' e) (ho2 : OnlyS [R] wr w2) :
    ∃ a3 c3 w3, (∀ ty, (Builtin.append_ #[74, 74] ty #[.slice a done.length c, .slice (some ⟨w2.heap.size, 0, none⟩) 1 1]).run Try.prog (w2.alloc (.cells #[x0, x1, x2] 76)) = .ok (.slice a3 (done.length + 1) c3) w3) ∧
      w2.cell? ⟨N, 2, none⟩ = some (.slice a done.length c) ∧ N < w2.heap.size ∧ w3.cell? ⟨N, 2, none⟩ = some (.slice a done.length c) ∧ w3.frozen? ⟨N, 2, none⟩ = false ∧
      KidsR w R N s st d tg D (w3.setCell ⟨N, 2, none⟩ (.slice a3 (done.length + 1) c3)) ∧ rdMeas R st (w3.setCell ⟨N, 2, none⟩ (.slice a3 (done.length + 1) c3)) = 0 := by
  have he := Mt.parseL_err _ _ _ hp
  have hNl := lt_of_block hN
  have hN2 := (ho2.block N hNl (by simp; omega)).trans hN
  have hN2l := lt_of_block hN2
  have hW2 := (ho2.block w.heap.size (lt_of_block hbx) (by simp; omega)).trans hbx
  obtain ⟨a3, c3, w3, hrun, ho3⟩ := row_step (hrw.other ho2 (by simp; omega)) h1 o0 o1 o2 (by omega)
  have hN3 := (ho3.block N hN2l (by simp; omega)).trans hN2
  have hW3 := (ho3.block w.heap.size (lt_of_block hW2) (by simp; omega)).trans hW2
  have hR3 := (ho3.block R (lt_of_block hr2) (by simp; omega)).trans hr2
  have hrd : IsRd (w3.setCell ⟨N, 2, none⟩ (.slice a3 (done.length + 1) c3)) R s p' e := (heap_setCell_other _ _ _ _ (by simp; omega)).trans hR3
  have hb3 : Below (N + 1) w2 w3 := ho3.toBelow (by simp; omega) (by omega)
  refine ⟨a3, c3, w3, hrun, cell_of_row w2 N 2 _ _ _ hN2, hN2l, cell_of_row w3 N 2 _ _ _ hN3, frozen_of_row w3 N 2 _ _ hN3, ⟨p', e, a3, c3, done.length + 1, hrd, ?_, ?_, ?_, .inr ⟨he, ?_⟩⟩, ?_⟩
  · have h2 : OnlyS [R] w w2 := ⟨ho2.os.trans ho.os, ho2.tape.trans ho.tape, ho2.output.trans ho.output, Nat.le_trans ho.size ho2.size, fun k hk hS => (ho2.block k (Nat.lt_of_lt_of_le hk ho.size) hS).trans (ho.block k hk hS)⟩
    have h3 := h2.past hb3 (by omega)
    exact ⟨h3.os, h3.tape, h3.output, by simpa using h3.size, fun k hk hS => (heap_setCell_other _ _ _ _ (by simp; omega)).trans (h3.block k hk hS)⟩
  · exact (heap_setCell_other _ _ _ _ (by simp; omega)).trans hW3
  · rw [heap_setCell_same _ _ _ _ _ _ hN3]; rfl
  · rw [hall, Mt.allL_bad hne hp]; rfl
  · rw [rdMeas_of hrd, if_neg he]
/-- Behind one more kid. -/
theorem kids_good {n : Mt.Nd} {r : List UInt8} (hRW : R < w.heap.size) (hW : w.heap.size < N) (ho : OnlyS [R] w wr) (hbx : wr.heap[w.heap.size]? = some (.cells #[.int .i64 0, .string ⟨#[]⟩, .slice none 0 0] 76 (0, 0)))
    (hN : wr.heap[N]? = some (.cells #[.int .i64 (tg : Int), .string ⟨#[]⟩, .slice a done.length c] 76 (0, 0))) (hrw : IsRw 76 3 wr g (.slice a done.length c) done.length xs) (hnds : AreNds wr (fun b => N + 1 ≤ b ∧ b ≠ g) d xs done) (hg : N + 1 ≤ g) (hpk : pk < st) (hst : st ≤ s.size) (hlen : done.length + (st - pk) ≤ 1048576)
    (hall : Mt.allL (Mt.parseL d) D.length D = Mt.onto done (Mt.allL (Mt.parseL d) (Mt.sub s pk st).length (Mt.sub s pk st))) (hne : Mt.sub s pk st ≠ []) (hp : Mt.parseL d (Mt.sub s pk st) = .ok (n, r))
    (hx : IsNd w2 (fun b => wr.heap.size ≤ b) d (.agg #[x0, x1, x2]) n) (hr2 : IsRd w2 R s (st - r.length) 0) (ho2 : OnlyS [R] wr w2) :
    ∃ a3 c3 w3, (∀ ty, (Builtin.append_ #[74, 74] ty #[.slice a done.length c, .slice (some ⟨w2.heap.size, 0, none⟩) 1 1]).run Try.prog (w2.alloc (.cells #[x0, x1, x2] 76)) = .ok (.slice a3 (done.length + 1) c3) w3) ∧
      w2.cell? ⟨N, 2, none⟩ = some (.slice a done.length c) ∧ N < w2.heap.size ∧ w3.cell? ⟨N, 2, none⟩ = some (.slice a done.length c) ∧ w3.frozen? ⟨N, 2, none⟩ = false ∧
      KidsR w R N s st d tg D (w3.setCell ⟨N, 2, none⟩ (.slice a3 (done.length + 1) c3)) ∧ rdMeas R st (w3.setCell ⟨N, 2, none⟩ (.slice a3 (done.length + 1) c3)) < st - pk + 1 := by
  have hrl := Mt.parseL_ok hp
  rw [Mt.sub_length _ _ _ hst] at hrl
  have hNl := lt_of_block hN
  have hN2 := (ho2.block N hNl (by simp; omega)).trans hN
  have hN2l := lt_of_block hN2
  have hW2 := (ho2.block w.heap.size (lt_of_block hbx) (by simp; omega)).trans hbx
  obtain ⟨a3, c3, w3, g3, xs3, hrun, hrw3, hnds3, hg3, hb3⟩ := nds_stepO hrw hnds rfl hg (by omega) (by omega : R < N + 1) hx ho2 (by omega)
  have hN3 := (hb3.block N (by omega)).trans hN2
  have hW3 := (hb3.block w.heap.size (by omega)).trans hW2
  have hR3 := (hb3.block R (by omega)).trans hr2
  have hrd : IsRd (w3.setCell ⟨N, 2, none⟩ (.slice a3 (done.length + 1) c3)) R s (st - r.length) 0 := (heap_setCell_other _ _ _ _ (by simp; omega)).trans hR3
  refine ⟨a3, c3, w3, hrun, cell_of_row w2 N 2 _ _ _ hN2, hN2l, cell_of_row w3 N 2 _ _ _ hN3, frozen_of_row w3 N 2 _ _ hN3, ⟨st - r.length, 0, a3, c3, done.length + 1, hrd, ?_, ?_, ?_, .inl ⟨rfl, Nat.sub_le _ _, done ++ [n], g3, xs3, by simp, ?_, ?_, ?_, hg3, ?_⟩⟩, ?_⟩
  · have h2 : OnlyS [R] w w2 := ⟨ho2.os.trans ho.os, ho2.tape.trans ho.tape, ho2.output.trans ho.output, Nat.le_trans ho.size ho2.size, fun k hk hS => (ho2.block k (Nat.lt_of_lt_of_le hk ho.size) hS).trans (ho.block k hk hS)⟩
    have h3 := h2.past hb3 (by omega)
    exact ⟨h3.os, h3.tape, h3.output, by simpa using h3.size, fun k hk hS => (heap_setCell_other _ _ _ _ (by simp; omega)).trans (h3.block k hk hS)⟩
  · exact (heap_setCell_other _ _ _ _ (by simp; omega)).trans hW3
  · rw [heap_setCell_same _ _ _ _ _ _ hN3]; rfl
  · rw [hall, Mt.onto_good (Mt.parseL_shrinks d) done hne hp, ← Mt.sub_suffix (Mt.parseL_suffix hp) (by omega) hst]
  · rw [List.length_append, List.length_singleton]; exact hrw3.kept (heap_setCell_other _ _ _ _ (by simp; omega))
  · exact hnds3.keep (fun _ h _ => h) (fun b hb _ => heap_setCell_other _ _ _ _ (by simp; omega))
  · simp; omega
  · rw [rdMeas_of hrd, if_pos rfl]; omega
end
end Go.Proofs.Ytcijjblcoelabaa
