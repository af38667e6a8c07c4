/-
  Some texts of one proof, one behind the other.
-/
import Derived.Test.YtnioagojiipjlaaGreatPk50
import Derived.Test.YtnioagojiipjlaaGreatPk51
import Derived.Test.YtnioagojiipjlaaGreatPk52
set_option linter.unusedVariables false
set_option linter.unusedSimpArgs false

/-
  JournalLasts: where both sides stand at each turn, and what each pair of calls comes to.
-/
namespace Go.Proofs.YtnioagojiipjlaaGreat
open Go.RowKit Go.Maps

/-- A cut: a call, and a loss. -/
structure Cu where
  N : Int
  K : Nat
  T : Int
  A : Int
structure Cu.Ok (a : Cu) : Prop where
  n : a.N ≤ 9223372036854775807
  k : a.K < 18446744073709551616
  t : -9223372036854775808 ≤ a.T ∧ a.T ≤ 9223372036854775807
  a : -9223372036854775808 ≤ a.A ∧ a.A ≤ 9223372036854775807
/-- Cuts in a slice. -/
def IsCuts (w : World) (a : Option Addr) (n : Nat) (f : Nat → Cu) : Prop := ∀ k, k < n → (f k).Ok ∧ ∃ b off, a = some ⟨b, off, none⟩ ∧ b < w.heap.size ∧ w.cell? ⟨b, off + k * 4, none⟩ = some (.int .i64 (f k).N) ∧ w.cell? ⟨b, off + k * 4 + 1, none⟩ = some (.int .u64 ((f k).K : Int)) ∧ w.cell? ⟨b, off + k * 4 + 2, none⟩ = some (.int .i64 (f k).T) ∧ w.cell? ⟨b, off + k * 4 + 3, none⟩ = some (.int .i64 (f k).A)

/-- What is the same at each turn. -/
structure En where
  B : Nat
  bl : Nat
  bm : Nat
  R : Nat
  NL : Nat
/-- At the head of a round. -/
def HeadP (w wr : World) (x : En) (k i : Nat) (v : Value) (told : List (List UInt8)) (ob : Bool) (mb : List UInt8) : Prop :=
  ∃ g t d, g.R = x.R ∧ Syn w.heap.size wr x.B x.bl x.bm g t d d none none ∧ ToldP w.heap.size wr g x.B x.bl x.bm v told ∧ Mt.AtHead d k told ob mb ∧ t ≤ 20010 * (k + i) ∧ told.length + ob.toNat ≤ i ∧ Below w.heap.size w wr
/-- Ahead of the Opens. -/
def OpenP (w wr : World) (x : En) (k i : Nat) (v : Value) (told : List (List UInt8)) (ob : Bool) (mb : List UInt8) (g : Rg) (t : Nat) (d : Mt.Dk) : Prop :=
  g.R = x.R ∧ Syn w.heap.size wr x.B x.bl x.bm g t d d none none ∧ ToldP w.heap.size wr g x.B x.bl x.bm v told ∧ Mt.AtOpen d k (¬ k < x.NL) told ob mb ∧ t ≤ 20010 * (k + i) ∧ told.length + ob.toNat ≤ i ∧ Below w.heap.size w wr
/-- Behind them: power is on. -/
def RunP (w wr : World) (x : En) (k i : Nat) (v : Value) (told : List (List UInt8)) (J Q : Nat) : Prop :=
  ∃ g t d j sl, g.R = x.R ∧ Syn w.heap.size wr x.B x.bl x.bm g t d d (some (J, j)) (some (Q, j, sl)) ∧ ToldP w.heap.size wr g x.B x.bl x.bm v told ∧ Mt.Told0 d j k (¬ k < x.NL) told ∧ t ≤ 20010 * (k + 1 + i) ∧ told.length ≤ i ∧ Below w.heap.size w wr
/-- .. power was lost. -/
def DownP (w wr : World) (x : En) (k i : Nat) (v : Value) (told : List (List UInt8)) (ob : Bool) (mb : List UInt8) : Prop :=
  ∃ g t d, g.R = x.R ∧ Syn w.heap.size wr x.B x.bl x.bm g t d d none none ∧ ToldP w.heap.size wr g x.B x.bl x.bm v told ∧ Mt.Told1 d k (¬ k < x.NL) told ob mb ∧ t ≤ 20010 * (k + 1 + i) ∧ told.length + ob.toNat ≤ i ∧ Below w.heap.size w wr
section
variable {w wr u : World} {x : En} {k i : Nat} {v : Value} {told : List (List UInt8)} {ob : Bool} {mb : List UInt8} {J Q : Nat}
theorem HeadP.bel (h : HeadP w wr x k i v told ob mb) : Below w.heap.size w wr := by
  obtain ⟨g, t, d, e, s, p, a, b, c, bel⟩ := h
  exact bel
theorem HeadP.below (h : HeadP w wr x k i v told ob mb) (hb : Below wr.heap.size wr u) : HeadP w u x k i v told ob mb := by
  obtain ⟨g, t, d, e, s, p, a, b, c, bel⟩ := h
  exact ⟨g, t, d, e, s.below hb, p.below hb, a, b, c, bel.trans (hb.mono bel.size)⟩
/-- No cut is left. -/
theorem HeadP.plain (h : HeadP w wr x k i v told ob mb) : ∃ g t d, OpenP w wr x k i v told ob mb g t d := by
  obtain ⟨g, t, d, e, s, p, a, b, c, bel⟩ := h
  exact ⟨g, t, d, e, s, p, a.open _, b, c, bel⟩
/-- A cut is asked for. -/
theorem HeadP.cut (h : HeadP w wr x k i v told ob mb) (hk : k < x.NL) (c : Cu) (hc : c.Ok) :
    Calls Tryz.prog 22 #[.pointer (some ⟨x.B, 0, none⟩), .int .i64 c.N, .agg #[.int .u64 (c.K : Int), .int .i64 c.T, .int .i64 c.A]] wr fun e w' => e = .returned (.tuple #[]) ∧ Hid (Below w.heap.size w w' ∧ ∀ u, Below w'.heap.size w' u → Calls Tryz.prog 23 #[.pointer (some ⟨x.R, 0, none⟩), .int .i64 c.N, .agg #[.int .u64 (c.K : Int), .int .i64 c.T, .int .i64 c.A]] u fun e w'' => e = .returned (.tuple #[]) ∧ Hid (∃ g t d, OpenP w w'' x k i v told ob mb g t d)) := by
  obtain ⟨g, t, d, e, s, p, a, b, cc, bel⟩ := h
  refine (cut1 s c.N c.K c.T c.A hc.n hc.k hc.t hc.a).mono ?_
  rintro _ w' ⟨rfl, s1, b1, o1⟩
  have t1 := p.disk1 o1
  refine ⟨rfl, Lib.hid ⟨bel.trans b1, fun u hb => ?_⟩⟩
  have s1' := s1.below hb
  rw [← e]
  refine (ecut_any s1'.two.isR c.N c.K c.T c.A hc.n hc.k hc.t hc.a).mono ?_
  rintro _ w'' ⟨rfl, p2, q2⟩
  obtain ⟨s2, b2⟩ := s1'.disk2 p2 q2 rfl
  exact ⟨rfl, Lib.hid ⟨g, t, _, e, s2, (t1.below hb).disk2 q2, a.cutAt (by simpa using hk) (by have := hc.n; omega) hc.k hc.t hc.a, b, cc, (bel.trans b1).trans ((hb.mono (bel.trans b1).size).trans b2)⟩⟩
/-- Both are opened. -/
theorem OpenP.open {g : Rg} {t : Nat} {d : Mt.Dk} (h : OpenP w wr x k i v told ob mb g t d) (hk : k ≤ 8) (hi : i ≤ 30) :
    Calls Tryz.prog 11 #[.pointer (some ⟨x.B, 0, none⟩)] wr fun e w' => ∃ (y : Value) (J : Nat), e = .returned (.tuple #[.pointer ((Mt.opJ d).map fun _ => ⟨J, 0, none⟩), y, .int .i64 (Mt.opE d)]) ∧
      Hid (IsTs w' y (Mt.opL d) ∧ (∀ a n c, y = .slice (some a) n c → wr.heap.size ≤ a.block) ∧ Calls Tryz.prog 12 #[.pointer (some ⟨x.R, 0, none⟩)] w' fun e w'' => ∃ (z : Value) (Q : Nat) (sl : Int) (g' : Rg), e = .returned (.tuple #[.pointer ((Mt.opJ d).map fun _ => ⟨Q, 0, none⟩), z, .int .i64 (Mt.opE d)]) ∧
        Hid (g'.R = x.R ∧ Syn w.heap.size w'' x.B x.bl x.bm g' (t + 20010) (Mt.opD d) (Mt.opD d) ((Mt.opJ d).map fun j => (J, j)) ((Mt.opJ d).map fun j => (Q, j, sl)) ∧ ToldP w.heap.size w'' g' x.B x.bl x.bm v told ∧ IsTs w'' y (Mt.opL d) ∧ Below w.heap.size w w'')) := by
  obtain ⟨e, s, p, a, b, c, bel⟩ := h
  refine (open3 s p (by omega) (by rw [a.len]; decide)).mono ?_
  rintro _ w' ⟨y, J, rfl, h1⟩
  obtain ⟨b1, k1, hnew, hc⟩ := h1.out
  rw [e] at hc
  refine ⟨y, J, rfl, Lib.hid ⟨k1, hnew, hc.mono ?_⟩⟩
  rintro _ w'' ⟨z, Q, sl, g', rfl, h2⟩
  obtain ⟨e1, e2, e3, e4, e5⟩ := h2.out
  exact ⟨z, Q, sl, g', rfl, Lib.hid ⟨e1, e2, e3, e4, bel.trans e5⟩⟩
theorem Mt.May.len {v' : List (List UInt8)} (h : Mt.May told ob mb v') : v'.length ≤ told.length + ob.toNat := by
  rcases h with rfl | ⟨rfl, rfl⟩
  · omega
  · simp
/-- What lies behind the Opens. -/
theorem OpenP.way {g g' : Rg} {t : Nat} {d : Mt.Dk} {w2 : World} {sl : Int} (h : OpenP w wr x k i v told ob mb g t d) (hk : k ≤ 8) (hi : i ≤ 30) (hR : g'.R = x.R) (hs : Syn w.heap.size w2 x.B x.bl x.bm g' (t + 20010) (Mt.opD d) (Mt.opD d) ((Mt.opJ d).map fun j => (J, j)) ((Mt.opJ d).map fun j => (Q, j, sl))) (hp : ToldP w.heap.size w2 g' x.B x.bl x.bm v told) (hb : Below w.heap.size w w2) (hc : (Mt.opD d).Clear) :
    (∃ T, Mt.May told ob mb T ∧ Mt.opE d = 0 ∧ Mt.opL d = T ∧ (∃ j, Mt.opJ d = some j) ∧ T.length ≤ i ∧
      (T = told → RunP w w2 x k i v told J Q) ∧
      (T = told ++ [mb] → ∃ a' c' w', (∀ ty, (Builtin.append_ #[30, 30] ty #[v, .slice (some ⟨w2.heap.size, 0, none⟩) 1 1]).run Tryz.prog (w2.alloc (.cells #[.string (Mt.str mb)] 9)) = .ok (.slice a' (told.length + 1) c') w') ∧ Hid (RunP w w' x k i (.slice a' (told.length + 1) c') (told ++ [mb]) J Q ∧ ∀ (y : Value) (l2 : List (List UInt8)), (∀ a n c, y = .slice (some a) n c → wr.heap.size ≤ a.block) → IsTs w2 y l2 → IsTs w' y l2))) ∨
    (Mt.opE d = 10 ∧ Mt.opJ d = none ∧ DownP w w2 x k i v told ob mb) := by
  obtain ⟨e, s, p, a, b, c, bel⟩ := h
  rcases a.way hk hc with ⟨T, j, h1, h2, h3, h4, h5⟩ | ⟨h2, h3, h4, h5⟩
  · rw [h4] at hs
    simp only [Option.map_some] at hs
    have hl := h1.len
    refine .inl ⟨T, h1, h2, h3, ⟨j, h4⟩, by omega, fun hT => ?_, fun hT => ?_⟩
    · subst hT
      exact ⟨g', _, _, j, sl, hR, hs, hp, h5, by omega, by omega, hb⟩
    · subst hT
      have ho : ob.toNat = 1 := by
        rcases h1 with h1 | ⟨h1, _⟩
        · exact absurd (congrArg List.length h1) (by simp)
        · rw [h1]; rfl
      obtain ⟨a', c', w', hrun, hh⟩ := told_push hs hp mb (by omega)
      obtain ⟨P, s3, p3, b3, k3⟩ := hh.out
      exact ⟨a', c', w', hrun, Lib.hid ⟨⟨g'.plus P, _, _, j, sl, hR, s3, p3, h5, by omega, by rw [List.length_append, List.length_singleton]; omega, hb.trans b3⟩, fun y l2 => k3 _ y l2 p.low⟩⟩
  · rw [h4] at hs
    exact .inr ⟨h2, h4, g', _, _, hR, hs, hp, h5, by omega, c, hb⟩
theorem RunP.below (h : RunP w wr x k i v told J Q) (hb : Below wr.heap.size wr u) : RunP w u x k i v told J Q := by
  obtain ⟨g, t, d, j, sl, e, s, p, a, b, c, bel⟩ := h
  exact ⟨g, t, d, j, sl, e, s.below hb, p.below hb, a, b, c, bel.trans (hb.mono bel.size)⟩
theorem RunP.ts (h : RunP w wr x k i v told J Q) : IsTs wr v told ∧ told.length ≤ i ∧ Below w.heap.size w wr := by
  obtain ⟨g, t, d, j, sl, e, s, p, a, b, c, bel⟩ := h
  exact ⟨p.ts, c, bel⟩
/-- One record more, of both. -/
theorem RunP.append (h : RunP w wr x k i v told J Q) (hk : k ≤ 8) (hi : i + 1 ≤ 30) (b : List UInt8) (hb : b.length ≤ 300) :
    Calls Tryz.prog 27 #[.pointer (some ⟨J, 0, none⟩), .string (Mt.str b)] wr fun e w' => ∃ E : Int, e = .returned (.int .i64 E) ∧ Hid (Calls Tryz.prog 28 #[.pointer (some ⟨Q, 0, none⟩), .string (Mt.str b)] w' fun e w'' => e = .returned (.int .i64 E) ∧ Hid (
      (E = 11 ∧ RunP w w'' x k (i + 1) v told J Q) ∨
      (E = 0 ∧ ∃ a' c' w3, (∀ ty, (Builtin.append_ #[30, 30] ty #[v, .slice (some ⟨w''.heap.size, 0, none⟩) 1 1]).run Tryz.prog (w''.alloc (.cells #[.string (Mt.str b)] 9)) = .ok (.slice a' (told.length + 1) c') w3) ∧ Hid (RunP w w3 x k (i + 1) (.slice a' (told.length + 1) c') (told ++ [b]) J Q)) ∨
      (E = 10 ∧ DownP w w'' x k (i + 1) v told true b))) := by
  obtain ⟨g, t, d, j, sl, e, s, p, a, hb2, c, bel⟩ := h
  obtain ⟨f1, f2⟩ := a.fit
  refine (append3 s p b (by omega) f1 f2 (by omega)).mono ?_
  rintro _ w' ⟨rfl, h1⟩
  refine ⟨_, rfl, Lib.hid (h1.out.2.mono ?_)⟩
  rintro _ w'' ⟨rfl, h2⟩
  obtain ⟨s2, p2, b2⟩ := h2.out
  refine ⟨rfl, Lib.hid ?_⟩
  rcases a.append (b := b) (by omega) (by omega) with ⟨e1, h3⟩ | ⟨e1, h3⟩ | ⟨e1, h3⟩
  · exact .inl ⟨e1, g, _, _, _, sl, e, s2, p2, h3, by omega, by omega, bel.trans b2⟩
  · obtain ⟨a', c', w3, hrun, hh⟩ := told_push s2 p2 b (by omega)
    obtain ⟨P, s3, p3, b3, _⟩ := hh.out
    exact .inr (.inl ⟨e1, a', c', w3, hrun, Lib.hid ⟨g.plus P, _, _, _, sl, e, s3, p3, h3, by omega, by rw [List.length_append, List.length_singleton]; omega, (bel.trans b2).trans b3⟩⟩)
  · exact .inr (.inr ⟨e1, g, _, _, e, s2.drop, p2, h3, by omega, by show told.length + 1 ≤ i + 1; omega, bel.trans b2⟩)
/-- All were told: opened once more. -/
theorem RunP.last (h : RunP w wr x k i v told J Q) (hk : k ≤ 8) :
    Calls Tryz.prog 30 #[.pointer (some ⟨x.B, 0, none⟩)] wr fun e w' => e = .returned (.tuple #[]) ∧ Hid (Calls Tryz.prog 11 #[.pointer (some ⟨x.B, 0, none⟩)] w' fun e w'' => ∃ (y : Value) (J' : Nat), e = .returned (.tuple #[.pointer (some ⟨J', 0, none⟩), y, .int .i64 0]) ∧ Hid (IsTs w'' y told ∧ IsTs w'' v told ∧ Below w.heap.size w w'')) := by
  obtain ⟨g, t, d, j, sl, e, s, p, a, b, c, bel⟩ := h
  obtain ⟨l1, l2⟩ := a.last hk
  refine (on3 s p).mono ?_
  rintro _ w' ⟨rfl, h1⟩
  obtain ⟨b1, hD, p1, _⟩ := h1.out
  refine ⟨rfl, Lib.hid ?_⟩
  have hb1 := bel.trans b1
  refine (open4 hD p1 ⟨s.apart.up.1, s.apart.up.2.1, s.apart.up.2.2.1⟩ hb1.size (by show 4 ≤ d.lasts.length; rw [a.len]; decide) rfl l1).mono ?_
  rintro _ w'' ⟨y, J', rfl, k1, k2, k3⟩
  rw [l2] at k1
  exact ⟨y, J', rfl, Lib.hid ⟨k1, k2, hb1.trans k3⟩⟩
/-- Power is on again. -/
theorem DownP.on (h : DownP w wr x k i v told ob mb) :
    k < x.NL ∧ Calls Tryz.prog 30 #[.pointer (some ⟨x.B, 0, none⟩)] wr fun e w' => e = .returned (.tuple #[]) ∧ Hid (Calls Tryz.prog 31 #[.pointer (some ⟨x.R, 0, none⟩)] w' fun e w'' => e = .returned (.tuple #[]) ∧ Hid (HeadP w w'' x (k + 1) i v told ob mb)) := by
  obtain ⟨g, t, d, e, s, p, a, b, c, bel⟩ := h
  refine ⟨by have := a.cut; omega, (on3 s p).mono ?_⟩
  rintro _ w' ⟨rfl, h1⟩
  obtain ⟨b1, hD, p1, hc⟩ := h1.out
  rw [e] at hc
  refine ⟨rfl, Lib.hid (hc.mono ?_)⟩
  rintro _ w'' ⟨rfl, h2⟩
  obtain ⟨s2, p2, b2⟩ := h2.out
  exact ⟨rfl, Lib.hid ⟨g, t, _, e, s2, p2, a.next, b, c, bel.trans b2⟩⟩
end
end Go.Proofs.YtnioagojiipjlaaGreat
