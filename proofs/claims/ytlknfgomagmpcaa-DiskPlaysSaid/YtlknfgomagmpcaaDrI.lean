/-
  The program's disk and the document's, side by side: one act of both.
-/
import Derived.Test.YtlknfgomagmpcaaDrH
namespace Go.Proofs.Ytlknfgomagmpcaa
open Go.RowKit Go.Maps

theorem Mt.calm_on (d : Mt.Dk) : Mt.Calm d.on := fun h => by cases h
theorem Mt.calm_crash (d : Mt.Dk) (k : Nat) (a b : Int) : Mt.Calm (d.crash k a b) := fun h => by cases h
theorem Mt.calm_limit {d : Mt.Dk} (h : Mt.Calm d) (n : Int) : Mt.Calm (d.limit n) := h
theorem Mt.calm_cut {d : Mt.Dk} (h : Mt.Calm d) (n k : Nat) (a b : Int) : Mt.Calm (d.cutAt n k a b) := h
theorem Mt.calm_lay (d : Mt.Dk) (s : List UInt8) : Mt.Calm (d.lay s) := fun _ => by
  unfold Mt.Dk.lay
  show Mt.noWaits _ = Mt.noWaits (Mt.layL _ _).length
  rw [Mt.layL_length]
theorem Mt.calm_new (n : Nat) : Mt.Calm (Mt.Dk.new n) := fun h => by cases h
theorem Mt.calm_count {d : Mt.Dk} (h : Mt.Calm d) : Mt.Calm d.count.1 := by
  unfold Mt.Dk.count
  split
  · exact h
  · split
    · intro _
      show Mt.noWaits d.lasts.length = Mt.noWaits (Mt.loseAll _ _ _ _ _).length
      unfold Mt.loseAll
      rw [Mt.loseK_length]
    · exact h
theorem Mt.calm_flush {d : Mt.Dk} (h : Mt.Calm d) (ho : d.Ok) : Mt.Calm d.flush.1 := by
  unfold Mt.Dk.flush
  split
  · exact h
  · split
    · intro _
      show Mt.noWaits d.count.1.lasts.length = Mt.noWaits (Mt.over _ _).length
      rw [Mt.over_length _ _ ho.count.len]
    · exact Mt.calm_count h
theorem Mt.calm_write {d : Mt.Dk} (h : Mt.Calm d) (i : Int) (s : List UInt8) : Mt.Calm (d.write i s).1 := by
  unfold Mt.Dk.write
  split
  · rename_i ha
    have hoff := (Mt.ask_yes ha).1
    split
    · split
      · refine Mt.calm_count ?_
        intro hx
        have : d.off = true := hx
        rw [hoff] at this; cases this
      · exact h
    · exact h
  · exact h

structure Both (base : Nat) (w : World) (B bl bm : Nat) (g : Rg) (t : Nat) (d : Mt.Dk) : Prop where
  one : IsDisk w B bl bm d
  two : IsR w g t d
  calm : Mt.Calm d
  lt : B < g.D ∧ bl < g.D ∧ bm < g.D
  ap : ∀ x ∈ [B, bl, bm], x ≠ g.R ∧ x ≠ g.bl ∧ x ≠ g.bw
  up : base ≤ B ∧ base ≤ bl ∧ base ≤ bm ∧ base ≤ g.R ∧ base ≤ g.bl ∧ base ≤ g.bw ∧ base ≤ g.D
  pr : g.P = g.R
  lo : g.bl < g.D ∧ g.bw < g.D

section
variable {base : Nat} {w u x : World} {B bl bm : Nat} {g : Rg} {t : Nat} {d d' : Mt.Dk}
theorem Both.size (h : Both base w B bl bm g t d) : base ≤ w.heap.size := Nat.le_trans h.up.2.2.2.2.2.2 h.two.size
theorem Both.below (h : Both base w B bl bm g t d) (hb : Below w.heap.size w u) : Both base u B bl bm g t d := ⟨h.one.below hb, h.two.below hb, h.calm, h.lt, h.ap, h.up, h.pr, h.lo⟩
theorem Both.alloc (h : Both base w B bl bm g t d) (o : Obj) : Both base (w.alloc o) B bl bm g t d := h.below ((Below.refl _ _).alloc (Nat.le_refl _) o)
theorem Both.drew (h : Both base w B bl bm g t d) : Both base w.drew B bl bm g t d := h.below (Below.refl _ _).drew
theorem Both.mono (h : Both base w B bl bm g t d) {t' : Nat} (ht : t ≤ t') : Both base w B bl bm g t' d := ⟨h.one, h.two.mono ht, h.calm, h.lt, h.ap, h.up, h.pr, h.lo⟩
theorem IsR.only (h : IsR w g t d) (ho : OnlyS [B, bl, bm] w u) (h1 : B < g.D ∧ bl < g.D ∧ bm < g.D) (h2 : ∀ x ∈ [B, bl, bm], x ≠ g.R ∧ x ≠ g.bl ∧ x ≠ g.bw) : IsR u g t d := by
  obtain ⟨a, b, c, e, f, h, ht⟩ := h
  refine ⟨a, b, c, e, f, h.kept ho.size fun k hk hh => ho.block k hk fun hm => ?_, ht⟩
  obtain ⟨p, q, r⟩ := h2 k hm
  rcases hh with rfl | ⟨_, rfl | rfl⟩ | hD
  · exact p rfl
  · exact q rfl
  · exact r rfl
  · simp only [List.mem_cons, List.not_mem_nil, or_false] at hm
    rcases hm with rfl | rfl | rfl <;> omega
theorem IsDisk.fr (h : IsDisk w B bl bm d) (hf : Fr g w u) (h1 : B < g.D ∧ bl < g.D ∧ bm < g.D) (h2 : ∀ x ∈ [B, bl, bm], x ≠ g.R ∧ x ≠ g.bl ∧ x ≠ g.bw) : IsDisk u B bl bm d := by
  have a := h2 B (by simp)
  have b := h2 bl (by simp)
  have c := h2 bm (by simp)
  exact h.kept (hf.block _ (.inl h1.1) h.ltB a.1 a.2.1 a.2.2) (hf.block _ (.inl h1.2.1) h.ltL b.1 b.2.1 b.2.2) (hf.block _ (.inl h1.2.2) h.ltM c.1 c.2.1 c.2.2)
theorem Fr.toBelow (hf : Fr g w u) (hs : g.D ≤ w.heap.size) (h1 : base ≤ g.R) (h2 : base ≤ g.bl) (h3 : base ≤ g.bw) (h4 : base ≤ g.D) : Below base w u :=
  ⟨hf.os, hf.tape, hf.output, hf.size, fun k hk => hf.block k (.inl (by omega)) (by omega) (by omega) (by omega) (by omega)⟩
/-- Behind a call of the program's disk. -/
theorem Both.first (h : Both base w B bl bm g t d) (ho : OnlyS [B, bl, bm] w u) : IsR u g t d ∧ Below base w u :=
  ⟨h.two.only ho h.lt h.ap, ho.toBelow (fun k hk => by
    have := h.up
    simp only [List.mem_cons, List.not_mem_nil, or_false] at hk
    rcases hk with rfl | rfl | rfl <;> omega) h.size⟩
/-- Behind a call of the document's disk. -/
theorem Both.second (h : Both base w B bl bm g t d) (hs : g.D ≤ u.heap.size) (h1 : IsDisk u B bl bm d') (hf : Fr g u x) (h2 : IsR x g (t + 1) d') (hc : Mt.Calm d') : Both base x B bl bm g (t + 1) d' ∧ Below base u x :=
  ⟨⟨h1.fr hf h.lt h.ap, h2, hc, h.lt, h.ap, h.up, h.pr, h.lo⟩, hf.toBelow hs h.up.2.2.2.1 h.up.2.2.2.2.1 h.up.2.2.2.2.2.1 h.up.2.2.2.2.2.2⟩

/-- An act as a value. -/
def actV (D I N : Int) (S : ByteArray) (K : Nat) (T A : Int) : Value := .agg #[.int .i64 D, .int .i64 I, .int .i64 N, .string S, .int .u64 (K : Int), .int .i64 T, .int .i64 A]
def DoPost (base : Nat) (w : World) (B bl bm : Nat) (g : Rg) (t : Nat) (e : Ending) (w' : World) : Prop := e = .returned (.bool true) ∧ (∃ d', Both base w' B bl bm g (t + 1) d') ∧ Below base w w'

theorem act_kept (h : Both base w B bl bm g t d) (o : Obj) : ∀ u, OnlyS [B, bl, bm] (w.alloc o) u → u.heap[w.heap.size]? = some o := fun u ho => by
  rw [ho.block _ (by simp) (fun hm => by
    have hl := h.lt
    have hs := h.two.size
    simp only [List.mem_cons, List.not_mem_nil, or_false] at hm
    rcases hm with e | e | e <;> omega)]
  exact heap_alloc_new w o
set_option maxRecDepth 100000 in
theorem do_on (h : Both base w B bl bm g t d) (ht : t < 1000) (D I N : Int) (S : ByteArray) (K : Nat) (T A : Int) (hN : N ≤ 9223372036854775807) (hK : K < 18446744073709551616) (hT : -9223372036854775808 ≤ T ∧ T ≤ 9223372036854775807) (hA : -9223372036854775808 ≤ A ∧ A ≤ 9223372036854775807) (hz : D.tmod 11 = 7 ∨ D.tmod 11 = -7) :
    Calls Try.prog 13 #[.pointer (some ⟨B, 0, none⟩), .pointer (some ⟨g.R, 0, none⟩), .agg #[.int .i64 D, .int .i64 I, .int .i64 N, .string S, .int .u64 (K : Int), .int .i64 T, .int .i64 A]] w (DoPost base w B bl bm g t) := by
  have HA := Lib.hid (h.alloc (.cells #[.int .i64 D, .int .i64 I, .int .i64 N, .string S, .int .u64 (K : Int), .int .i64 T, .int .i64 A] 32))
  have HB := Lib.hid ((Below.refl base w).alloc h.size (.cells #[.int .i64 D, .int .i64 I, .int .i64 N, .string S, .int .u64 (K : Int), .int .i64 T, .int .i64 A] 32))
  have HACT := Lib.hid (act_kept h (.cells #[.int .i64 D, .int .i64 I, .int .i64 N, .string S, .int .u64 (K : Int), .int .i64 T, .int .i64 A] 32))
  have HH := Lib.hid (And.intro hN (And.intro hK (And.intro hT hA)))
  clear h hN hK hT hA
  rcases hz with hz | hz
  all_goals
    go_enter Try.func13, Try.ntmps13
    go_wp2_with fail
    refine (on_any HA.out.one).mono ?_
    rintro e w2 ⟨rfl, hd, ho⟩
    have HX := Lib.hid (HA.out.first ho)
    have HY := Lib.hid hd
    have HC := Lib.hid (HACT.out _ ho)
    clear hd ho
    go_wp2_with fail
    refine (eon_any HX.out.1).mono ?_
    rintro e w3 ⟨rfl, hd, hf⟩
    have HZ := Lib.hid (HA.out.second HX.out.1.size HY.out hf (hd.mono (Nat.le_succ _)) (Mt.calm_on _))
    clear hd hf
    go_wp2_with fail
    go_ret
    exact ⟨rfl, ⟨_, HZ.out.1⟩, (HB.out.trans HX.out.2).trans HZ.out.2⟩
set_option maxRecDepth 100000 in
theorem do_flush (h : Both base w B bl bm g t d) (ht : t < 1000) (D I N : Int) (S : ByteArray) (K : Nat) (T A : Int) (hN : N ≤ 9223372036854775807) (hK : K < 18446744073709551616) (hT : -9223372036854775808 ≤ T ∧ T ≤ 9223372036854775807) (hA : -9223372036854775808 ≤ A ∧ A ≤ 9223372036854775807) (hz : D.tmod 11 = 2 ∨ D.tmod 11 = -2 ∨ D.tmod 11 = 3 ∨ D.tmod 11 = -3) :
    Calls Try.prog 13 #[.pointer (some ⟨B, 0, none⟩), .pointer (some ⟨g.R, 0, none⟩), .agg #[.int .i64 D, .int .i64 I, .int .i64 N, .string S, .int .u64 (K : Int), .int .i64 T, .int .i64 A]] w (DoPost base w B bl bm g t) := by
  have HA := Lib.hid (h.alloc (.cells #[.int .i64 D, .int .i64 I, .int .i64 N, .string S, .int .u64 (K : Int), .int .i64 T, .int .i64 A] 32))
  have HB := Lib.hid ((Below.refl base w).alloc h.size (.cells #[.int .i64 D, .int .i64 I, .int .i64 N, .string S, .int .u64 (K : Int), .int .i64 T, .int .i64 A] 32))
  have HACT := Lib.hid (act_kept h (.cells #[.int .i64 D, .int .i64 I, .int .i64 N, .string S, .int .u64 (K : Int), .int .i64 T, .int .i64 A] 32))
  have HH := Lib.hid (And.intro hN (And.intro hK (And.intro hT hA)))
  clear h hN hK hT hA
  rcases hz with hz | hz | hz | hz
  all_goals
    go_enter Try.func13, Try.ntmps13
    go_wp2_with fail
    refine (flush_any HA.out.one).mono ?_
    rintro e w2 ⟨rfl, hd, ho⟩
    have HX := Lib.hid (HA.out.first ho)
    have HY := Lib.hid hd
    have HC := Lib.hid (HACT.out _ ho)
    clear hd ho
    go_wp2_with fail
    refine (eflush_any HX.out.1 ht).mono ?_
    rintro e w3 ⟨rfl, hd, hf⟩
    have HZ := Lib.hid (HA.out.second HX.out.1.size HY.out hf hd (Mt.calm_flush HA.out.calm HA.out.one.ok))
    clear hd hf
    go_wp2_with fail
    go_ret
    exact ⟨by simp, ⟨_, HZ.out.1⟩, (HB.out.trans HX.out.2).trans HZ.out.2⟩
set_option maxRecDepth 100000 in
theorem do_limit (h : Both base w B bl bm g t d) (ht : t < 1000) (D I N : Int) (S : ByteArray) (K : Nat) (T A : Int) (hN : N ≤ 9223372036854775807) (hK : K < 18446744073709551616) (hT : -9223372036854775808 ≤ T ∧ T ≤ 9223372036854775807) (hA : -9223372036854775808 ≤ A ∧ A ≤ 9223372036854775807) (hz : D.tmod 11 = 4 ∨ D.tmod 11 = -4) :
    Calls Try.prog 13 #[.pointer (some ⟨B, 0, none⟩), .pointer (some ⟨g.R, 0, none⟩), .agg #[.int .i64 D, .int .i64 I, .int .i64 N, .string S, .int .u64 (K : Int), .int .i64 T, .int .i64 A]] w (DoPost base w B bl bm g t) := by
  have HA := Lib.hid (h.alloc (.cells #[.int .i64 D, .int .i64 I, .int .i64 N, .string S, .int .u64 (K : Int), .int .i64 T, .int .i64 A] 32))
  have HB := Lib.hid ((Below.refl base w).alloc h.size (.cells #[.int .i64 D, .int .i64 I, .int .i64 N, .string S, .int .u64 (K : Int), .int .i64 T, .int .i64 A] 32))
  have HACT := Lib.hid (act_kept h (.cells #[.int .i64 D, .int .i64 I, .int .i64 N, .string S, .int .u64 (K : Int), .int .i64 T, .int .i64 A] 32))
  have HH := Lib.hid (And.intro hN (And.intro hK (And.intro hT hA)))
  clear h hN hK hT hA
  rcases hz with hz | hz
  all_goals
    go_enter Try.func13, Try.ntmps13
    go_wp2_with fail
    refine (limit_any HA.out.one N).mono ?_
    rintro e w2 ⟨rfl, hd, ho⟩
    have HX := Lib.hid (HA.out.first ho)
    have HY := Lib.hid hd
    have HC := Lib.hid (HACT.out _ ho)
    have p2 : w2.cell? ⟨w.heap.size, 2, none⟩ = some (.int .i64 N) := by rw [cell_of_row _ _ _ _ _ _ HC.out]; rfl
    clear hd ho
    go_wp2_with fail
    refine (elimit_any HX.out.1 N HH.out.1).mono ?_
    rintro e w3 ⟨rfl, hd, hf⟩
    have HZ := Lib.hid (HA.out.second HX.out.1.size HY.out hf (hd.mono (Nat.le_succ _)) (Mt.calm_limit HA.out.calm _))
    clear hd hf
    go_wp2_with fail
    go_ret
    exact ⟨rfl, ⟨_, HZ.out.1⟩, (HB.out.trans HX.out.2).trans HZ.out.2⟩
set_option maxRecDepth 100000 in
theorem do_crash (h : Both base w B bl bm g t d) (ht : t < 1000) (D I N : Int) (S : ByteArray) (K : Nat) (T A : Int) (hN : N ≤ 9223372036854775807) (hK : K < 18446744073709551616) (hT : -9223372036854775808 ≤ T ∧ T ≤ 9223372036854775807) (hA : -9223372036854775808 ≤ A ∧ A ≤ 9223372036854775807) (hz : D.tmod 11 = 5 ∨ D.tmod 11 = -5) :
    Calls Try.prog 13 #[.pointer (some ⟨B, 0, none⟩), .pointer (some ⟨g.R, 0, none⟩), .agg #[.int .i64 D, .int .i64 I, .int .i64 N, .string S, .int .u64 (K : Int), .int .i64 T, .int .i64 A]] w (DoPost base w B bl bm g t) := by
  have HA := Lib.hid (h.alloc (.cells #[.int .i64 D, .int .i64 I, .int .i64 N, .string S, .int .u64 (K : Int), .int .i64 T, .int .i64 A] 32))
  have HB := Lib.hid ((Below.refl base w).alloc h.size (.cells #[.int .i64 D, .int .i64 I, .int .i64 N, .string S, .int .u64 (K : Int), .int .i64 T, .int .i64 A] 32))
  have HACT := Lib.hid (act_kept h (.cells #[.int .i64 D, .int .i64 I, .int .i64 N, .string S, .int .u64 (K : Int), .int .i64 T, .int .i64 A] 32))
  have HH := Lib.hid (And.intro hN (And.intro hK (And.intro hT hA)))
  clear h hN hK hT hA
  rcases hz with hz | hz
  all_goals
    go_enter Try.func13, Try.ntmps13
    go_wp2_with fail
    refine (crash_any HA.out.one K T A HH.out.2.1 HH.out.2.2.1 HH.out.2.2.2).mono ?_
    rintro e w2 ⟨rfl, hd, ho⟩
    have HX := Lib.hid (HA.out.first ho)
    have HY := Lib.hid hd
    have HC := Lib.hid (HACT.out _ ho)
    have p4 : w2.cell? ⟨w.heap.size, 4, none⟩ = some (.int .u64 (K : Int)) := by rw [cell_of_row _ _ _ _ _ _ HC.out]; rfl
    have p5 : w2.cell? ⟨w.heap.size, 5, none⟩ = some (.int .i64 T) := by rw [cell_of_row _ _ _ _ _ _ HC.out]; rfl
    have p6 : w2.cell? ⟨w.heap.size, 6, none⟩ = some (.int .i64 A) := by rw [cell_of_row _ _ _ _ _ _ HC.out]; rfl
    clear hd ho
    go_wp2_with fail
    refine (ecrash_any HX.out.1 HA.out.calm ht K T A HH.out.2.1 HH.out.2.2.1 HH.out.2.2.2).mono ?_
    rintro e w3 ⟨rfl, hd, hf⟩
    have HZ := Lib.hid (HA.out.second HX.out.1.size HY.out hf hd (Mt.calm_crash _ _ _ _))
    clear hd hf
    go_wp2_with fail
    go_ret
    exact ⟨rfl, ⟨_, HZ.out.1⟩, (HB.out.trans HX.out.2).trans HZ.out.2⟩
set_option maxRecDepth 100000 in
theorem do_cut (h : Both base w B bl bm g t d) (ht : t < 1000) (D I N : Int) (S : ByteArray) (K : Nat) (T A : Int) (hN : N ≤ 9223372036854775807) (hK : K < 18446744073709551616) (hT : -9223372036854775808 ≤ T ∧ T ≤ 9223372036854775807) (hA : -9223372036854775808 ≤ A ∧ A ≤ 9223372036854775807) (hz : D.tmod 11 = 6 ∨ D.tmod 11 = -6) :
    Calls Try.prog 13 #[.pointer (some ⟨B, 0, none⟩), .pointer (some ⟨g.R, 0, none⟩), .agg #[.int .i64 D, .int .i64 I, .int .i64 N, .string S, .int .u64 (K : Int), .int .i64 T, .int .i64 A]] w (DoPost base w B bl bm g t) := by
  have HA := Lib.hid (h.alloc (.cells #[.int .i64 D, .int .i64 I, .int .i64 N, .string S, .int .u64 (K : Int), .int .i64 T, .int .i64 A] 32))
  have HB := Lib.hid ((Below.refl base w).alloc h.size (.cells #[.int .i64 D, .int .i64 I, .int .i64 N, .string S, .int .u64 (K : Int), .int .i64 T, .int .i64 A] 32))
  have HACT := Lib.hid (act_kept h (.cells #[.int .i64 D, .int .i64 I, .int .i64 N, .string S, .int .u64 (K : Int), .int .i64 T, .int .i64 A] 32))
  have HH := Lib.hid (And.intro hN (And.intro hK (And.intro hT hA)))
  clear h hN hK hT hA
  rcases hz with hz | hz
  all_goals
    go_enter Try.func13, Try.ntmps13
    go_wp2_with fail
    refine (cut_any HA.out.one N K T A HH.out.1 HH.out.2.1 HH.out.2.2.1 HH.out.2.2.2).mono ?_
    rintro e w2 ⟨rfl, hd, ho⟩
    have HX := Lib.hid (HA.out.first ho)
    have HY := Lib.hid hd
    have HC := Lib.hid (HACT.out _ ho)
    have p2 : w2.cell? ⟨w.heap.size, 2, none⟩ = some (.int .i64 N) := by rw [cell_of_row _ _ _ _ _ _ HC.out]; rfl
    have p4 : w2.cell? ⟨w.heap.size, 4, none⟩ = some (.int .u64 (K : Int)) := by rw [cell_of_row _ _ _ _ _ _ HC.out]; rfl
    have p5 : w2.cell? ⟨w.heap.size, 5, none⟩ = some (.int .i64 T) := by rw [cell_of_row _ _ _ _ _ _ HC.out]; rfl
    have p6 : w2.cell? ⟨w.heap.size, 6, none⟩ = some (.int .i64 A) := by rw [cell_of_row _ _ _ _ _ _ HC.out]; rfl
    clear hd ho
    go_wp2_with fail
    refine (ecut_any HX.out.1 N K T A HH.out.1 HH.out.2.1 HH.out.2.2.1 HH.out.2.2.2).mono ?_
    rintro e w3 ⟨rfl, hd, hf⟩
    have HZ := Lib.hid (HA.out.second HX.out.1.size HY.out hf (hd.mono (Nat.le_succ _)) (Mt.calm_cut HA.out.calm _ _ _ _))
    clear hd hf
    go_wp2_with fail
    go_ret
    exact ⟨rfl, ⟨_, HZ.out.1⟩, (HB.out.trans HX.out.2).trans HZ.out.2⟩
set_option maxRecDepth 100000 in
theorem do_lay (h : Both base w B bl bm g t d) (ht : t < 1000) (D I N : Int) (S : ByteArray) (K : Nat) (T A : Int) (hN : N ≤ 9223372036854775807) (hK : K < 18446744073709551616) (hT : -9223372036854775808 ≤ T ∧ T ≤ 9223372036854775807) (hA : -9223372036854775808 ≤ A ∧ A ≤ 9223372036854775807) (hz : D.tmod 11 = 8 ∨ D.tmod 11 = -8) :
    Calls Try.prog 13 #[.pointer (some ⟨B, 0, none⟩), .pointer (some ⟨g.R, 0, none⟩), .agg #[.int .i64 D, .int .i64 I, .int .i64 N, .string S, .int .u64 (K : Int), .int .i64 T, .int .i64 A]] w (DoPost base w B bl bm g t) := by
  have HA := Lib.hid (h.alloc (.cells #[.int .i64 D, .int .i64 I, .int .i64 N, .string S, .int .u64 (K : Int), .int .i64 T, .int .i64 A] 32))
  have HB := Lib.hid ((Below.refl base w).alloc h.size (.cells #[.int .i64 D, .int .i64 I, .int .i64 N, .string S, .int .u64 (K : Int), .int .i64 T, .int .i64 A] 32))
  have HACT := Lib.hid (act_kept h (.cells #[.int .i64 D, .int .i64 I, .int .i64 N, .string S, .int .u64 (K : Int), .int .i64 T, .int .i64 A] 32))
  obtain ⟨m, hm⟩ : ∃ m, min S.size 3000 = m := ⟨_, rfl⟩
  have hm1 : m ≤ S.size := by omega
  have hm2 : (m : Int) ≤ (S.size : Int) := by omega
  have hm0 : (0 : Int) ≤ (m : Int) := by omega
  have hmin : min (S.size : Int) 3000 = (m : Int) := by omega
  have hm3 : (S.extract 0 m).size ≤ 1000000 := by simp [ByteArray.size_extract]; omega
  have HM3 := Lib.hid hm3
  clear hm hm3
  have HH := Lib.hid (And.intro hN (And.intro hK (And.intro hT hA)))
  clear h hN hK hT hA
  rcases hz with hz | hz
  all_goals
    go_enter Try.func13, Try.ntmps13
    go_wp2_with fail
    refine (lay_any HA.out.one (S.extract 0 m)).mono ?_
    rintro e w2 ⟨rfl, hd, ho⟩
    have HX := Lib.hid (HA.out.first ho)
    have HY := Lib.hid hd
    have HC := Lib.hid (HACT.out _ ho)
    clear hd ho
    go_wp2_with fail
    refine (elay_any HX.out.1 (S.extract 0 m) HM3.out).mono ?_
    rintro e w3 ⟨rfl, hd, hf⟩
    have HZ := Lib.hid (HA.out.second HX.out.1.size HY.out hf (hd.mono (Nat.le_succ _)) (Mt.calm_lay _ _))
    clear hd hf
    go_wp2_with fail
    go_ret
    exact ⟨rfl, ⟨_, HZ.out.1⟩, (HB.out.trans HX.out.2).trans HZ.out.2⟩
end
end Go.Proofs.Ytlknfgomagmpcaa
