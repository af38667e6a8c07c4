/-
  How the document's disk lies in memory: a block of ten cells, two rows of texts, a row of what was torn.
-/
import Derived.Test.YtlknfgomagmpcaaDkL
import Derived.Deep.AppendLies
import Derived.Deep.RegionHeld3
namespace Go.Proofs.Ytlknfgomagmpcaa
open Go.RowKit Go.Maps

theorem Try.infoTorn : (Try.prog.info? 100).map (fun i => (i.zero, i.size, i.bytes)) = some (some (.agg #[.string ByteArray.empty, .string ByteArray.empty, .string ByteArray.empty]), 3, 48) := by kernel_rfl
theorem Try.infoStr : (Try.prog.info? 9).map (fun i => (i.zero, i.size, i.bytes)) = some (some (.string ByteArray.empty), 1, 16) := by kernel_rfl

/-- Where the document's disk lies: its block, its two rows; what lies below the row of what was torn. -/
structure Rg where
  R : Nat
  bl : Nat
  bw : Nat
  D : Nat
  cl : Nat
  cw : Nat
  P : Nat

def wtxt : Option (List UInt8) → ByteArray
  | none => ByteArray.empty
  | some b => Mt.str b
def slc (n b c : Nat) : Value := .slice (if n = 0 then none else some ⟨b, 0, none⟩) n c
theorem slc_pos {n b c : Nat} (h : n ≠ 0) : slc n b c = .slice (some ⟨b, 0, none⟩) n c := by unfold slc; rw [if_neg h]
def rCells (g : Rg) (d : Mt.Dk) (lim : Bool) (most : Nat) (tv : Value) : Array Value :=
  #[slc d.lasts.length g.bl g.cl, slc d.lasts.length g.bw g.cw, .bool lim, .int .i64 (most : Int), .bool d.off, .int .i64 (d.cut : Int), .int .u64 (d.keep : Int), .int .i64 d.torn, .int .i64 d.at', tv]

/-- The row of a list of texts. -/
def txts (w : World) (b : Nat) (n : Nat) (f : Nat → ByteArray) : Prop := ∃ cs, w.heap[b]? = some (.cells cs 9 (0, 0)) ∧ ∀ i, i < n → cs[i]? = some (.string (f i))
def lastT (d : Mt.Dk) (i : Nat) : ByteArray := Mt.str (d.lasts.getD i [])
def waitT (d : Mt.Dk) (i : Nat) : ByteArray := wtxt (d.waits.getD i none)

structure RD (w : World) (g : Rg) (d : Mt.Dk) (lim : Bool) (most : Nat) (tv : Value) (tn : Nat) (tcs : List Value) : Prop where
  ok : d.Ok
  row : w.heap[g.R]? = some (.cells (rCells g d lim most tv) 37 (0, 0))
  lasts : d.lasts.length ≠ 0 → txts w g.bl d.lasts.length (lastT d)
  waits : d.lasts.length ≠ 0 → txts w g.bw d.lasts.length (waitT d)
  tears : w.ownsRow g.D 100 3 tv tn tcs
  ltR : g.R < g.D
  apart : d.lasts.length ≠ 0 → g.bl < g.D ∧ g.bw < g.D ∧ g.bl ≠ g.bw ∧ g.bl ≠ g.R ∧ g.bw ≠ g.R
  size : g.D ≤ w.heap.size
  room : d.room = if lim = true ∧ most < d.lasts.length then most else d.lasts.length
  most : most ≤ 9223372036854775807
  prot : tv.ownBlock ≠ some g.P
  ltP : g.P < w.heap.size

theorem own_at {w u : World} {base : Nat} {e : TypeId} {size : Nat} {v : Value} {n : Nat} {xs : List Value} (h : w.ownsRow base e size v n xs) (hk : ∀ k, base ≤ k → k < w.heap.size → u.heap[k]? = w.heap[k]?) : u.ownsRow base e size v n xs := by
  refine ⟨h.1, ?_⟩
  rcases h.2 with h | ⟨g, cap, cur, h1, h2, h3, h4⟩
  · exact .inl h
  · exact .inr ⟨g, cap, cur, h1, h2, by rw [hk g h2 (lt_of_block h3)]; exact h3, h4⟩

/-- What a call of the document's disk leaves as it was. -/
structure Fr (g : Rg) (w w' : World) : Prop where
  os : w'.os = w.os
  tape : w'.tape = w.tape
  output : w'.output = w.output
  size : w.heap.size ≤ w'.heap.size
  block : ∀ k, (k < g.D ∨ k = g.P) → k < w.heap.size → k ≠ g.R → k ≠ g.bl → k ≠ g.bw → w'.heap[k]? = w.heap[k]?
theorem Fr.refl (g : Rg) (w : World) : Fr g w w := ⟨rfl, rfl, rfl, Nat.le_refl _, fun _ _ _ _ _ _ => rfl⟩
theorem Fr.trans {g : Rg} {a b c : World} (h1 : Fr g a b) (h2 : Fr g b c) : Fr g a c :=
  ⟨h2.os.trans h1.os, h2.tape.trans h1.tape, h2.output.trans h1.output, Nat.le_trans h1.size h2.size, fun k z a b c d => (h2.block k z (Nat.lt_of_lt_of_le a h1.size) b c d).trans (h1.block k z a b c d)⟩
theorem Fr.drew {g : Rg} {a b : World} (h : Fr g a b) : Fr g a b.drew := ⟨h.os, h.tape, h.output, h.size, h.block⟩
theorem Fr.drewN {g : Rg} {a b : World} (n : Nat) (h : Fr g a b) : Fr g a (b.drewN n) := ⟨h.os, h.tape, h.output, h.size, h.block⟩
theorem Fr.setCell {g : Rg} {a b : World} (h : Fr g a b) {x i : Nat} (hx : x = g.R ∨ x = g.bl ∨ x = g.bw) (v : Value) : Fr g a (b.setCell ⟨x, i, none⟩ v) := by
  have hb : Below 0 b (b.setCell ⟨x, i, none⟩ v) := Below.setCell (Below.refl 0 b) (Nat.zero_le _) v
  exact ⟨hb.os.trans h.os, hb.tape.trans h.tape, hb.output.trans h.output, Nat.le_trans h.size hb.size, fun k h0 h1 h2 h3 h4 => by
    rw [heap_setCell_other _ _ _ _ (fun e => by rcases hx with rfl | rfl | rfl <;> simp_all)]; exact h.block k h0 h1 h2 h3 h4⟩
theorem Fr.below {g : Rg} {a b c : World} (h : Fr g a b) (h2 : Below b.heap.size b c) : Fr g a c :=
  h.trans ⟨h2.os, h2.tape, h2.output, h2.size, fun k _ hk _ _ _ => h2.block k hk⟩
theorem Fr.alloc {g : Rg} {a b : World} (h : Fr g a b) (_hs : g.D ≤ b.heap.size) (o : Obj) : Fr g a (b.alloc o) := h.below ((Below.refl _ b).alloc (Nat.le_refl _) o)
theorem Fr.grown {g : Rg} {a b c : World} {row : Option Nat} (h : Fr g a b) (hr : ∀ k, row = some k → g.D ≤ k) (hp : row ≠ some g.P) (h2 : b.grownBy c row) : Fr g a c :=
  h.trans ⟨h2.os, h2.tape, h2.output, h2.size, fun k hk h3 _ _ _ => h2.block k h3 (fun e => by
    rcases hk with hk | rfl
    · have := hr k e.symm; omega
    · exact hp e.symm)⟩

section
variable {w u : World} {g : Rg} {d : Mt.Dk} {lim : Bool} {most : Nat} {tv : Value} {tn : Nat} {tcs : List Value}

theorem RD.kept (h : RD w g d lim most tv tn tcs) (hs : w.heap.size ≤ u.heap.size) (hk : ∀ k, k < w.heap.size → (k = g.R ∨ (d.lasts.length ≠ 0 ∧ (k = g.bl ∨ k = g.bw)) ∨ g.D ≤ k) → u.heap[k]? = w.heap[k]?) : RD u g d lim most tv tn tcs := by
  refine ⟨h.ok, ?_, fun hn => ?_, fun hn => ?_, own_at h.tears fun k h1 h2 => hk k h2 (.inr (.inr h1)), h.ltR, h.apart, Nat.le_trans h.size hs, h.room, h.most, h.prot, Nat.lt_of_lt_of_le h.ltP hs⟩
  · rw [hk _ (lt_of_block h.row) (.inl rfl)]; exact h.row
  · obtain ⟨cs, h1, h2⟩ := h.lasts hn
    exact ⟨cs, by rw [hk _ (lt_of_block h1) (.inr (.inl ⟨hn, .inl rfl⟩))]; exact h1, h2⟩
  · obtain ⟨cs, h1, h2⟩ := h.waits hn
    exact ⟨cs, by rw [hk _ (lt_of_block h1) (.inr (.inl ⟨hn, .inr rfl⟩))]; exact h1, h2⟩
theorem RD.below (h : RD w g d lim most tv tn tcs) (hb : Below w.heap.size w u) : RD u g d lim most tv tn tcs := h.kept hb.size fun k hk _ => hb.block k hk
theorem RD.drew (h : RD w g d lim most tv tn tcs) : RD w.drew g d lim most tv tn tcs := h.kept (Nat.le_refl _) fun _ _ _ => rfl
theorem RD.drewN (n : Nat) (h : RD w g d lim most tv tn tcs) : RD (w.drewN n) g d lim most tv tn tcs := h.kept (Nat.le_refl _) fun _ _ _ => rfl
theorem RD.alloc (h : RD w g d lim most tv tn tcs) (o : Obj) : RD (w.alloc o) g d lim most tv tn tcs := h.below ((Below.refl _ _).alloc (Nat.le_refl _) o)

theorem RD.c0 (h : RD w g d lim most tv tn tcs) : w.cell? ⟨g.R, 0, none⟩ = some (slc d.lasts.length g.bl g.cl) := by rw [cell_of_row _ _ _ _ _ _ h.row]; rfl
theorem RD.c1 (h : RD w g d lim most tv tn tcs) : w.cell? ⟨g.R, 1, none⟩ = some (slc d.lasts.length g.bw g.cw) := by rw [cell_of_row _ _ _ _ _ _ h.row]; rfl
theorem RD.c2 (h : RD w g d lim most tv tn tcs) : w.cell? ⟨g.R, 2, none⟩ = some (.bool lim) := by rw [cell_of_row _ _ _ _ _ _ h.row]; rfl
theorem RD.c3 (h : RD w g d lim most tv tn tcs) : w.cell? ⟨g.R, 3, none⟩ = some (.int .i64 (most : Int)) := by rw [cell_of_row _ _ _ _ _ _ h.row]; rfl
theorem RD.c4 (h : RD w g d lim most tv tn tcs) : w.cell? ⟨g.R, 4, none⟩ = some (.bool d.off) := by rw [cell_of_row _ _ _ _ _ _ h.row]; rfl
theorem RD.c5 (h : RD w g d lim most tv tn tcs) : w.cell? ⟨g.R, 5, none⟩ = some (.int .i64 (d.cut : Int)) := by rw [cell_of_row _ _ _ _ _ _ h.row]; rfl
theorem RD.c6 (h : RD w g d lim most tv tn tcs) : w.cell? ⟨g.R, 6, none⟩ = some (.int .u64 (d.keep : Int)) := by rw [cell_of_row _ _ _ _ _ _ h.row]; rfl
theorem RD.c7 (h : RD w g d lim most tv tn tcs) : w.cell? ⟨g.R, 7, none⟩ = some (.int .i64 d.torn) := by rw [cell_of_row _ _ _ _ _ _ h.row]; rfl
theorem RD.c8 (h : RD w g d lim most tv tn tcs) : w.cell? ⟨g.R, 8, none⟩ = some (.int .i64 d.at') := by rw [cell_of_row _ _ _ _ _ _ h.row]; rfl
theorem RD.c9 (h : RD w g d lim most tv tn tcs) : w.cell? ⟨g.R, 9, none⟩ = some tv := by rw [cell_of_row _ _ _ _ _ _ h.row]; rfl
theorem RD.f (h : RD w g d lim most tv tn tcs) (i : Nat) : w.frozen? ⟨g.R, i, none⟩ = false := frozen_of_row _ _ _ _ _ h.row
theorem RD.cL (h : RD w g d lim most tv tn tcs) (i : Nat) (hi : i < d.lasts.length) : w.cell? ⟨g.bl, i, none⟩ = some (.string (lastT d i)) := by
  obtain ⟨cs, h1, h2⟩ := h.lasts (by omega)
  rw [cell_of_row _ _ _ _ _ _ h1]; exact h2 i hi
theorem RD.cW (h : RD w g d lim most tv tn tcs) (i : Nat) (hi : i < d.lasts.length) : w.cell? ⟨g.bw, i, none⟩ = some (.string (waitT d i)) := by
  obtain ⟨cs, h1, h2⟩ := h.waits (by omega)
  rw [cell_of_row _ _ _ _ _ _ h1]; exact h2 i hi
theorem RD.fL (h : RD w g d lim most tv tn tcs) (i : Nat) (hn : d.lasts.length ≠ 0) : w.frozen? ⟨g.bl, i, none⟩ = false := by
  obtain ⟨cs, h1, _⟩ := h.lasts hn
  exact frozen_of_row _ _ _ _ _ h1
theorem RD.fW (h : RD w g d lim most tv tn tcs) (i : Nat) (hn : d.lasts.length ≠ 0) : w.frozen? ⟨g.bw, i, none⟩ = false := by
  obtain ⟨cs, h1, _⟩ := h.waits hn
  exact frozen_of_row _ _ _ _ _ h1

theorem setCell_size (w : World) (p : Addr) (v : Value) : w.heap.size ≤ (w.setCell p v).heap.size := (Below.setCell (Below.refl 0 w) (Nat.zero_le _) v).size
theorem txts_other {b n x i : Nat} {f : Nat → ByteArray} (h : txts w b n f) (hx : b ≠ x) (v : Value) : txts (w.setCell ⟨x, i, none⟩ v) b n f := by
  obtain ⟨cs, h1, h2⟩ := h
  exact ⟨cs, by rw [heap_setCell_other _ _ _ _ hx]; exact h1, h2⟩
theorem txts_same {b n i : Nat} {f : Nat → ByteArray} (h : txts w b n f) (hi : i < n) (s : ByteArray) : txts (w.setCell ⟨b, i, none⟩ (.string s)) b n (fun j => if j = i then s else f j) := by
  obtain ⟨cs, h1, h2⟩ := h
  refine ⟨cs.setIfInBounds i (.string s), heap_setCell_same w b i _ _ _ h1, fun j hj => ?_⟩
  rw [Array.getElem?_setIfInBounds]
  by_cases e : i = j
  · subst e
    have h3 : i < cs.size := by
      have h := h2 i hi
      rcases Nat.lt_or_ge i cs.size with h4 | h4
      · exact h4
      · rw [Array.getElem?_eq_none h4] at h; cases h
    simp [h3]
  · rw [if_neg e]
    show cs[j]? = some (.string (if j = i then s else f j))
    rw [if_neg (fun h : j = i => e h.symm)]; exact h2 j hj
theorem txts_congr {b n : Nat} {f f' : Nat → ByteArray} (h : txts w b n f) (he : ∀ i, i < n → f i = f' i) : txts w b n f' := by
  obtain ⟨cs, h1, h2⟩ := h
  exact ⟨cs, h1, fun i hi => by rw [h2 i hi, he i hi]⟩

/-- A field is written. -/
theorem RD.field (h : RD w g d lim most tv tn tcs) (i : Nat) (v : Value) (d' : Mt.Dk) (lim' : Bool) (most' : Nat) (tv' : Value) (tn' : Nat) (tcs' : List Value) (hok : d'.Ok) (hl : d'.lasts = d.lasts) (hw : d'.waits = d.waits)
    (hc : (rCells g d lim most tv).setIfInBounds i v = rCells g d' lim' most' tv') (hroom : d'.room = if lim' = true ∧ most' < d'.lasts.length then most' else d'.lasts.length) (hm : most' ≤ 9223372036854775807) (ht : w.ownsRow g.D 100 3 tv' tn' tcs') (hv : tv' = tv := by rfl) :
    RD (w.setCell ⟨g.R, i, none⟩ v) g d' lim' most' tv' tn' tcs' := by
  have hr := heap_setCell_same w g.R i _ _ v h.row
  rw [hc] at hr
  have e1 : lastT d' = lastT d := by funext j; unfold lastT; rw [hl]
  have e2 : waitT d' = waitT d := by funext j; unfold waitT; rw [hw]
  refine ⟨hok, hr, fun hn => ?_, fun hn => ?_, own_at ht fun k h1 _ => heap_setCell_other _ _ _ _ (by have := h.ltR; show k ≠ g.R; omega), h.ltR, by rw [hl]; exact h.apart, Nat.le_trans h.size (setCell_size _ _ _), hroom, hm, by rw [hv]; exact h.prot, Nat.lt_of_lt_of_le h.ltP (setCell_size _ _ _)⟩
  · rw [hl] at hn ⊢
    rw [e1]
    exact txts_other (h.lasts hn) (h.apart hn).2.2.2.1 v
  · rw [hl] at hn ⊢
    rw [e2]
    exact txts_other (h.waits hn) (h.apart hn).2.2.2.2 v
theorem rCells_len (g : Rg) (d d' : Mt.Dk) (lim : Bool) (most : Nat) (tv : Value) (h : d'.lasts.length = d.lasts.length) (h1 : d'.off = d.off) (h2 : d'.cut = d.cut) (h3 : d'.keep = d.keep) (h4 : d'.torn = d.torn) (h5 : d'.at' = d.at') : rCells g d' lim most tv = rCells g d lim most tv := by
  unfold rCells; rw [h, h1, h2, h3, h4, h5]
/-- A sector that lasts is written. -/
theorem RD.setL (h : RD w g d lim most tv tn tcs) (k : Nat) (hk : k < d.lasts.length) (s : List UInt8) (hs : s.length = 128) : RD (w.setCell ⟨g.bl, k, none⟩ (.string (Mt.str s))) g { d with lasts := d.lasts.set k s } lim most tv tn tcs := by
  have hn : d.lasts.length ≠ 0 := by omega
  obtain ⟨a1, a2, a3, a4, a5⟩ := h.apart hn
  have o := h.ok
  refine ⟨⟨by show d.waits.length = _; rw [List.length_set]; exact o.len, by show (d.lasts.set k s).length ≤ _; rw [List.length_set]; exact o.most, fun i hi => ?_, o.waits, by show d.room ≤ (d.lasts.set k s).length; rw [List.length_set]; exact o.room, o.cut, o.keep, o.torn, o.at'⟩, ?_, fun _ => ?_, fun _ => ?_, own_at h.tears fun k' h1 _ => heap_setCell_other _ _ _ _ (by show k' ≠ g.bl; omega), h.ltR, by rw [List.length_set]; exact h.apart, Nat.le_trans h.size (setCell_size _ _ _), by rw [List.length_set]; exact h.room, h.most, h.prot, Nat.lt_of_lt_of_le h.ltP (setCell_size _ _ _)⟩
  · show ((d.lasts.set k s)[i]).length = 128
    rw [List.getElem_set]
    split
    · exact hs
    · exact o.lasts i (by have : i < (d.lasts.set k s).length := hi; rw [List.length_set] at this; exact this)
  · rw [heap_setCell_other _ _ _ _ (Ne.symm a4), rCells_len g d { d with lasts := d.lasts.set k s } lim most tv (by simp) rfl rfl rfl rfl rfl]; exact h.row
  · rw [List.length_set]
    refine txts_congr (txts_same (h.lasts hn) hk _) fun i hi => ?_
    unfold lastT
    simp only [List.getD, List.getElem?_set]
    by_cases e : k = i
    · subst e; simp [hk]
    · rw [if_neg (fun h : i = k => e h.symm), if_neg e]
  · rw [List.length_set]
    exact txts_other (h.waits hn) (Ne.symm a3) _
/-- A sector that waits is written. -/
theorem RD.setW (h : RD w g d lim most tv tn tcs) (k : Nat) (hk : k < d.lasts.length) (o : Option (List UInt8)) (ho : ∀ b, o = some b → b.length = 128) : RD (w.setCell ⟨g.bw, k, none⟩ (.string (wtxt o))) g { d with waits := d.waits.set k o } lim most tv tn tcs := by
  have hn : d.lasts.length ≠ 0 := by omega
  obtain ⟨a1, a2, a3, a4, a5⟩ := h.apart hn
  have q := h.ok
  refine ⟨⟨by show (d.waits.set k o).length = _; rw [List.length_set]; exact q.len, q.most, q.lasts, fun j b hb => ?_, q.room, q.cut, q.keep, q.torn, q.at'⟩, ?_, fun _ => ?_, fun _ => ?_, own_at h.tears fun k' h1 _ => heap_setCell_other _ _ _ _ (by show k' ≠ g.bw; omega), h.ltR, h.apart, Nat.le_trans h.size (setCell_size _ _ _), h.room, h.most, h.prot, Nat.lt_of_lt_of_le h.ltP (setCell_size _ _ _)⟩
  · have hb' : (d.waits.set k o)[j]? = some (some b) := hb
    rw [List.getElem?_set] at hb'
    split at hb'
    · split at hb'
      · exact ho b (by simpa using hb')
      · cases hb'
    · exact q.waits j b hb'
  · rw [heap_setCell_other _ _ _ _ (Ne.symm a5), rCells_len g d { d with waits := d.waits.set k o } lim most tv rfl rfl rfl rfl rfl rfl]; exact h.row
  · exact txts_other (h.lasts hn) a3 _
  · refine txts_congr (txts_same (h.waits hn) hk _) fun i hi => ?_
    unfold waitT
    simp only [List.getD, List.getElem?_set]
    have hl : k < d.waits.length := by rw [q.len]; exact hk
    by_cases e : k = i
    · subst e; simp [hl]
    · rw [if_neg (fun h : i = k => e h.symm), if_neg e]
end

/-- The document's disk, of at most so many that were torn. -/
def IsR (w : World) (g : Rg) (t : Nat) (d : Mt.Dk) : Prop := ∃ lim most tv tn tcs, RD w g d lim most tv tn tcs ∧ tn ≤ t
theorem IsR.below {w u : World} {g : Rg} {t : Nat} {d : Mt.Dk} (h : IsR w g t d) (hb : Below w.heap.size w u) : IsR u g t d := by
  obtain ⟨a, b, c, e, f, h, ht⟩ := h
  exact ⟨a, b, c, e, f, h.below hb, ht⟩
theorem IsR.mono {w : World} {g : Rg} {t t' : Nat} {d : Mt.Dk} (h : IsR w g t d) (hb : t ≤ t') : IsR w g t' d := by
  obtain ⟨a, b, c, e, f, h, ht⟩ := h
  exact ⟨a, b, c, e, f, h, Nat.le_trans ht hb⟩
theorem IsR.size {w : World} {g : Rg} {t : Nat} {d : Mt.Dk} (h : IsR w g t d) : g.D ≤ w.heap.size := by
  obtain ⟨a, b, c, e, f, h, ht⟩ := h
  exact h.size
theorem IsR.ok {w : World} {g : Rg} {t : Nat} {d : Mt.Dk} (h : IsR w g t d) : d.Ok := by
  obtain ⟨a, b, c, e, f, h, ht⟩ := h
  exact h.ok
end Go.Proofs.Ytlknfgomagmpcaa
