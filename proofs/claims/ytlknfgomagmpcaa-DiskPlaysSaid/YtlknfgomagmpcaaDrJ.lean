/-
  The program's disk and the document's, side by side: Read, Write, and any act.
-/
import Derived.Test.YtlknfgomagmpcaaDrI
namespace Go.Proofs.Ytlknfgomagmpcaa
open Go.RowKit Go.Maps

/-- The bytes that are written, of a text. -/
def secQ (S : ByteArray) : ByteArray := if 130 < S.size then S else Mt.str (Mt.sec1 S.data.toList)
theorem sector_any (S : ByteArray) (w : World) : Calls Try.prog 22 #[.string S] w fun e w' => e = .returned (.string (secQ S)) ∧ Below w.heap.size w w' := by
  unfold secQ
  by_cases h : 130 < S.size
  · rw [if_pos h]; exact sector_long S h w
  · rw [if_neg h]; exact sector_short S (by omega) w

section
variable {base : Nat} {w u x : World} {B bl bm : Nat} {g : Rg} {t : Nat} {d d' : Mt.Dk}

def Rg.at (g : Rg) (p : Nat) : Rg := ⟨g.R, g.bl, g.bw, g.D, g.cl, g.cw, p⟩
theorem IsR.toP (h : IsR w g t d) (o : Obj) : IsR (w.alloc o) (g.at w.heap.size) t d := by
  obtain ⟨a, b, c, e, f, h, ht⟩ := h
  have hp : c.ownBlock ≠ some w.heap.size := fun e => by have := (h.tears.lt _ e).2; omega
  have h2 := h.alloc o
  exact ⟨a, b, c, e, f, ⟨h2.ok, h2.row, h2.lasts, h2.waits, h2.tears, h2.ltR, h2.apart, h2.size, h2.room, h2.most, hp, by show w.heap.size < (w.alloc o).heap.size; simp⟩, ht⟩
theorem IsR.unP {p : Nat} (h : IsR w (g.at p) t d) (hp : g.P = g.R) : IsR w g t d := by
  obtain ⟨a, b, c, e, f, h, ht⟩ := h
  have h1 : c.ownBlock ≠ some g.P := fun e => by have h3 := (h.tears.lt _ e).1; have h4 := h.ltR; rw [hp] at h3; exact absurd (show g.R < g.D from h4) (by have : g.D ≤ g.R := h3; omega)
  exact ⟨a, b, c, e, f, ⟨h.ok, h.row, h.lasts, h.waits, h.tears, h.ltR, h.apart, h.size, h.room, h.most, h1, by rw [hp]; exact Nat.lt_of_lt_of_le h.ltR h.size⟩, ht⟩
theorem Fr.unP {p : Nat} (h : Fr (g.at p) w u) (hp : g.P = g.R) : Fr g w u :=
  ⟨h.os, h.tape, h.output, h.size, fun k hk h1 h2 h3 h4 => h.block k (.inl (by
    rcases hk with hk | hk
    · exact hk
    · exact absurd (hk.trans hp) h2)) h1 h2 h3 h4⟩

set_option maxRecDepth 100000 in
theorem do_read (h : Both base w B bl bm g t d) (D I N : Int) (S : ByteArray) (K : Nat) (T A : Int) (hz : D.tmod 11 = 1 ∨ D.tmod 11 = -1) :
    Calls Try.prog 13 #[.pointer (some ⟨B, 0, none⟩), .pointer (some ⟨g.R, 0, none⟩), .agg #[.int .i64 D, .int .i64 I, .int .i64 N, .string S, .int .u64 (K : Int), .int .i64 T, .int .i64 A]] w (DoPost base w B bl bm g t) := by
  have HA := Lib.hid (h.alloc (.cells #[.int .i64 D, .int .i64 I, .int .i64 N, .string S, .int .u64 (K : Int), .int .i64 T, .int .i64 A] 32))
  have HB := Lib.hid ((Below.refl base w).alloc h.size (.cells #[.int .i64 D, .int .i64 I, .int .i64 N, .string S, .int .u64 (K : Int), .int .i64 T, .int .i64 A] 32))
  have HACT := Lib.hid (heap_alloc_new w (.cells #[.int .i64 D, .int .i64 I, .int .i64 N, .string S, .int .u64 (K : Int), .int .i64 T, .int .i64 A] 32))
  clear h
  rcases hz with hz | hz
  all_goals
    go_enter Try.func13, Try.ntmps13
    go_wp2_with fail
    refine (read_any HA.out.one I).mono ?_
    rintro e w2 ⟨rfl, hb⟩
    have HX := Lib.hid (HA.out.below hb)
    have HC := Lib.hid ((hb.block _ (lt_of_block HACT.out)).trans HACT.out)
    have HB2 := Lib.hid (HB.out.trans (hb.mono HA.out.size))
    have p1 : w2.cell? ⟨w.heap.size, 1, none⟩ = some (.int .i64 I) := by rw [cell_of_row _ _ _ _ _ _ HC.out]; rfl
    clear hb
    go_wp2_with fail
    refine (eread_any HX.out.two I).mono ?_
    rintro e w3 ⟨rfl, rfl⟩
    go_wp2_with fail
    go_ret
    exact ⟨by simp, ⟨_, HX.out.mono (Nat.le_succ _)⟩, HB2.out⟩
end
end Go.Proofs.Ytlknfgomagmpcaa
