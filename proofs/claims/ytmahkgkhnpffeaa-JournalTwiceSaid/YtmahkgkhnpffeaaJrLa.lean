/-
  What put comes to: a body's cells, one behind the other.
-/
import Derived.Test.YtmahkgkhnpffeaaJrK
import Derived.BigRegion
namespace Go.Proofs.Ytmahkgkhnpffeaa
open Go.RowKit

theorem secsOf_length (g n : Nat) (b : List UInt8) : (Mt.secsOf g n b).length = Mt.cellsN b.length := by simp [Mt.secsOf]
theorem secsOf_get (g n : Nat) (b : List UInt8) (k : Nat) (h : k < (Mt.secsOf g n b).length) : (Mt.secsOf g n b)[k] = (Mt.cellAt g n b k).sector := by simp [Mt.secsOf]
section
variable {w u : World} {J B bl bm : Nat} {j : Mt.Jn} {d : Mt.Dk}
/-- Where put stands behind k parts. -/
structure PutAt (w wr : World) (J B bl bm : Nat) (j : Mt.Jn) (d : Mt.Dk) (b : List UInt8) (k : Nat) : Prop where
  jd : JD wr J B bl bm j (Mt.wrS d (j.first d.lasts.length + j.used) ((Mt.secsOf j.gen j.count b).take k)).1
  ok : (Mt.wrS d (j.first d.lasts.length + j.used) ((Mt.secsOf j.gen j.count b).take k)).2 = 0
  only : OnlyS [J, B, bl, bm] w wr
  box : ∃ x y, wr.heap[w.heap.size]? = some (.cells #[.int .u64 (j.gen : Int), .int .u64 (j.count : Int), x, .int .i64 (Mt.cellsN b.length : Int), y] 65 (0, 0))
theorem Mt.drop_part (b : List UInt8) (k n : Nat) (hn : n = min 110 (b.length - 110 * k)) :
    (Mt.str (b.drop (110 * k))).extract 0 n = Mt.str ((b.drop (110 * k)).take 110) ∧ (Mt.str (b.drop (110 * k))).extract n (Mt.str (b.drop (110 * k))).size = Mt.str (b.drop (110 * (k + 1))) := by
  have hl : (b.drop (110 * k)).length = b.length - 110 * k := List.length_drop
  constructor
  · have := Mt.ext_list (Mt.str (b.drop (110 * k))) 0 n
    rw [Nat.zero_add, Mt.str_data, List.drop_zero] at this
    rw [this]
    congr 1
    rw [hn]
    by_cases h : 110 ≤ b.length - 110 * k
    · rw [Nat.min_eq_left h]
    · rw [Nat.min_eq_right (by omega), List.take_of_length_le (by omega), List.take_of_length_le (by omega)]
  · have := Mt.extract_list (Mt.str (b.drop (110 * k))) n
    apply ByteArray.ext
    apply Array.ext'
    rw [this, Mt.str_data, Mt.str_data, List.drop_drop]
    by_cases h : 110 ≤ b.length - 110 * k
    · congr 1; omega
    · rw [List.drop_eq_nil_of_le (by omega), List.drop_eq_nil_of_le (by omega)]
theorem PutAt.start (h : JD w J B bl bm j d) (b : List UInt8) (P : Nat) (hP : Mt.cellsN b.length = P) : PutAt w ((w.alloc (.cells #[.int .u64 (j.gen : Int), .int .u64 (j.count : Int), .int .i64 0, .int .i64 (P : Int), .string ⟨#[]⟩] 65)).drew) J B bl bm j d b 0 := by
  have hb : Below w.heap.size w ((w.alloc (.cells #[.int .u64 (j.gen : Int), .int .u64 (j.count : Int), .int .i64 0, .int .i64 (P : Int), .string ⟨#[]⟩] 65)).drew) := ((Below.refl _ _).alloc (Nat.le_refl _) _).drew
  refine ⟨?_, rfl, Below.onlyS hb (Nat.le_refl _), .int .i64 0, .string ⟨#[]⟩, by rw [hP]; exact heap_alloc_new w _⟩
  exact h.below hb
theorem PutAt.part {wr : World} {b : List UInt8} {k P : Nat} (h : PutAt w wr J B bl bm j d b k) (hlt : J < w.heap.size ∧ B < w.heap.size ∧ bl < w.heap.size ∧ bm < w.heap.size) {x y : Value} (hb : wr.heap[w.heap.size]? = some (.cells #[.int .u64 (j.gen : Int), .int .u64 (j.count : Int), x, .int .i64 (P : Int), y] 65 (0, 0))) (Y : Value) :
    let wz := ((wr.setCell ⟨w.heap.size, 2, none⟩ (.int .i64 (k : Int))).setCell ⟨w.heap.size, 4, none⟩ Y).drew
    JD wz J B bl bm j (Mt.wrS d (j.first d.lasts.length + j.used) ((Mt.secsOf j.gen j.count b).take k)).1 ∧ OnlyS [J, B, bl, bm] w wz ∧ wz.heap[w.heap.size]? = some (.cells #[.int .u64 (j.gen : Int), .int .u64 (j.count : Int), .int .i64 (k : Int), .int .i64 (P : Int), Y] 65 (0, 0)) := by
  have hk : ∀ g, g < w.heap.size → (((wr.setCell ⟨w.heap.size, 2, none⟩ (.int .i64 (k : Int))).setCell ⟨w.heap.size, 4, none⟩ Y).drew).heap[g]? = wr.heap[g]? := fun g hg => by
    show ((wr.setCell ⟨w.heap.size, 2, none⟩ (.int .i64 (k : Int))).setCell ⟨w.heap.size, 4, none⟩ Y).heap[g]? = _
    have hne : g ≠ w.heap.size := by omega
    rw [heap_setCell_other _ _ _ _ hne, heap_setCell_other _ _ _ _ hne]
  refine ⟨h.jd.kept (hk _ hlt.1) (hk _ hlt.2.1) (hk _ hlt.2.2.1) (hk _ hlt.2.2.2), ?_, ?_⟩
  · have hb2 : Below w.heap.size wr (((wr.setCell ⟨w.heap.size, 2, none⟩ (.int .i64 (k : Int))).setCell ⟨w.heap.size, 4, none⟩ Y).drew) := (((Below.refl _ _).setCell (p := ⟨w.heap.size, 2, none⟩) (Nat.le_refl _) _).setCell (p := ⟨w.heap.size, 4, none⟩) (Nat.le_refl _) _).drew
    have ho := h.only
    exact ⟨hb2.os.trans ho.os, hb2.tape.trans ho.tape, hb2.output.trans ho.output, Nat.le_trans ho.size hb2.size, fun g hg hS => (hk g hg).trans (ho.block g hg hS)⟩
  · show ((wr.setCell ⟨w.heap.size, 2, none⟩ (.int .i64 (k : Int))).setCell ⟨w.heap.size, 4, none⟩ Y).heap[w.heap.size]? = _
    rw [heap_setCell_same _ _ _ _ _ _ (heap_setCell_same _ _ _ _ _ _ hb)]
    rfl
theorem PutAt.next {wr wz u : World} {b : List UInt8} {k P : Nat} {E : Int} (hP : Mt.cellsN b.length = P) (hk : k < P) (h0 : PutAt w wr J B bl bm j d b k)
    (hz : JD wz J B bl bm j (Mt.wrS d (j.first d.lasts.length + j.used) ((Mt.secsOf j.gen j.count b).take k)).1) (ho : OnlyS [J, B, bl, bm] w wz) (hlt : J < w.heap.size ∧ B < w.heap.size ∧ bl < w.heap.size ∧ bm < w.heap.size)
    (hb : wz.heap[w.heap.size]? = some (.cells #[.int .u64 (j.gen : Int), .int .u64 (j.count : Int), .int .i64 (k : Int), .int .i64 (P : Int), .string (Mt.str ((b.drop (110 * k)).take 110))] 65 (0, 0)))
    (i : Int) (hi : i = ((j.first d.lasts.length + j.used + k : Nat) : Int)) (hd : IsDisk u B bl bm ((Mt.wrS d (j.first d.lasts.length + j.used) ((Mt.secsOf j.gen j.count b).take k)).1.write i (Mt.cellAt j.gen j.count b k).sector).1) (hu : OnlyS [B, bl, bm] wz u)
    (hE : E = ((Mt.wrS d (j.first d.lasts.length + j.used) ((Mt.secsOf j.gen j.count b).take k)).1.write i (Mt.cellAt j.gen j.count b k).sector).2) :
    (E = 0 → PutAt w u J B bl bm j d b (k + 1)) ∧ (E ≠ 0 → (Mt.putJ d j b).2.2 = E ∧ JD u J B bl bm (Mt.putJ d j b).2.1 (Mt.putJ d j b).1 ∧ OnlyS [J, B, bl, bm] w u) := by
  have hl : k < (Mt.secsOf j.gen j.count b).length := by rw [secsOf_length, hP]; exact hk
  have hs := Mt.wrS_succ (Mt.secsOf j.gen j.count b) d (j.first d.lasts.length + j.used) k hl h0.ok
  rw [secsOf_get, ← hi] at hs
  rw [← hs] at hd hE
  have hjd := hz.disk hd hu (by rw [Mt.wrS_len, Mt.wrS_len])
  have hon := ho.trans (hu.mono (by intro x hx; simp at hx ⊢; omega))
  refine ⟨fun e => ⟨hjd, hE.symm.trans e, hon, .int .i64 (k : Int), .string (Mt.str ((b.drop (110 * k)).take 110)), ?_⟩, fun e => ?_⟩
  · rw [hP]
    exact (hu.block _ (lt_of_block hb) (by simp; omega)).trans hb
  · have hne : (Mt.wrS d (j.first d.lasts.length + j.used) ((Mt.secsOf j.gen j.count b).take (k + 1))).2 ≠ 0 := by rw [← hE]; exact e
    have hend := Mt.wrS_end _ _ _ _ hne
    have hp : Mt.putJ d j b = ((Mt.wrS d (j.first d.lasts.length + j.used) ((Mt.secsOf j.gen j.count b).take (k + 1))).1, j, (Mt.wrS d (j.first d.lasts.length + j.used) ((Mt.secsOf j.gen j.count b).take (k + 1))).2) := by
      unfold Mt.putJ
      rw [hend, if_neg hne]
    rw [hp]
    exact ⟨hE.symm, hjd, hon⟩
theorem PutAt.fin {wr : World} {b : List UInt8} {P : Nat} (hP : Mt.cellsN b.length = P) (h : PutAt w wr J B bl bm j d b P) (hu : j.used + P ≤ 8192) (hc : j.count + 1 ≤ 8192) (x y : Value) (hx : x = .int .i64 ((j.count + 1 : Nat) : Int)) (hy : y = .int .i64 ((j.used + P : Nat) : Int)) :
    (Mt.putJ d j b).2.2 = 0 ∧ JD (((wr.setCell ⟨J, 4, none⟩ x).setCell ⟨J, 5, none⟩ y).drew) J B bl bm (Mt.putJ d j b).2.1 (Mt.putJ d j b).1 ∧ OnlyS [J, B, bl, bm] w (((wr.setCell ⟨J, 4, none⟩ x).setCell ⟨J, 5, none⟩ y).drew) := by
  have ht : (Mt.secsOf j.gen j.count b).take P = Mt.secsOf j.gen j.count b := List.take_of_length_le (by rw [secsOf_length, hP]; exact Nat.le_refl _)
  have hok := h.ok
  have hjd := h.jd
  rw [ht] at hok hjd
  have hp : Mt.putJ d j b = ((Mt.wrS d (j.first d.lasts.length + j.used) (Mt.secsOf j.gen j.count b)).1, { j with count := j.count + 1, used := j.used + P }, 0) := by
    unfold Mt.putJ
    rw [if_pos hok, hP]
  rw [hp]
  subst hx hy
  refine ⟨rfl, ?_, ?_⟩
  · have h1 := hjd.jn.set 4 (.int .i64 ((j.count + 1 : Nat) : Int)) { j with count := j.count + 1 } rfl
    have h2 := h1.set 5 (.int .i64 ((j.used + P : Nat) : Int)) { j with count := j.count + 1, used := j.used + P } rfl
    exact hjd.put (u := ((wr.setCell ⟨J, 4, none⟩ _).setCell ⟨J, 5, none⟩ _).drew) h2 ((((OnlyS.refl _ _).setCell (by simp) _).setCell (by simp) _).drew) hjd.half hjd.head hjd.gen hu hc
  · exact ((h.only.setCell (by simp) _).setCell (by simp) _).drew
end
end Go.Proofs.Ytmahkgkhnpffeaa
