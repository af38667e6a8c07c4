/-
  Some texts of one proof, one behind the other.
-/
import Derived.Test.YtnioagojiipjlaaGreatPk37

/-
  A step's two calls, one behind the other, over both sides.
-/
namespace Go.Proofs.YtnioagojiipjlaaGreat
open Go.RowKit Go.Maps
section
variable {base : Nat} {w u : World} {B bl bm R : Nat} {t : Nat} {d : Mt.Dk} {p q : Option Addr}
theorem open1p (h : Pr6 base w B bl bm R t d p q) : Calls Tryz.prog 11 #[.pointer (some ⟨B, 0, none⟩)] w fun e w' => ∃ (x : Value) (J : Nat) (P : Nat → Prop) (g : Rg), e = .returned (.tuple #[.pointer ((Mt.opJ d).map fun _ => ⟨J, 0, none⟩), x, .int .i64 (Mt.opE d)]) ∧
    Hid (g.R = R ∧ Syn base w' B bl bm (g.plus P) t (Mt.opD d) d ((Mt.opJ d).map fun j => (J, j)) none ∧ Below base w w' ∧ TsK w' (g.plus P) x (Mt.opL d)) := by
  cases h with
  | nil g e hs hf hl =>
    refine (open1 hs).mono ?_
    rintro e' w' ⟨x, J, P, h1, h2⟩
    exact ⟨x, J, P, g, h1, Lib.hid ⟨e, h2.out⟩⟩
  | both g J j Q sl e hs hf hl =>
    refine (open1 hs).mono ?_
    rintro e' w' ⟨x, J, P, h1, h2⟩
    exact ⟨x, J, P, g, h1, Lib.hid ⟨e, h2.out⟩⟩
theorem crash1p (h : Pr6 base w B bl bm R t d p q) (ht : t < 1000000) (k : Nat) (a b : Int) (hk : k < 18446744073709551616) (ha : -9223372036854775808 ≤ a ∧ a ≤ 9223372036854775807) (hb : -9223372036854775808 ≤ b ∧ b ≤ 9223372036854775807) :
    Calls Tryz.prog 20 #[.pointer (some ⟨B, 0, none⟩), .agg #[.int .u64 (k : Int), .int .i64 a, .int .i64 b]] w fun e w' => e = .returned (.tuple #[]) ∧ OnlyS [B, bl, bm] w w' ∧ Hid (Calls Tryz.prog 21 #[.pointer (some ⟨R, 0, none⟩), .agg #[.int .u64 (k : Int), .int .i64 a, .int .i64 b]] w' fun e w'' => e = .returned (.tuple #[]) ∧ Hid (Pr6 base w'' B bl bm R (t + 1) (d.crash k a b) p q ∧ Below base w w'')) := by
  have hC : Mt.Calm2 d → Mt.Calm2 (d.crash k a b) := fun c => ⟨c.ok.crash k a b, Mt.calm_crash _ _ _ _⟩
  cases h with
  | nil g e hs hf hl =>
    subst e
    refine (crash1 hs k a b hk ha hb).mono ?_
    rintro e w' ⟨rfl, s1, b1, o1⟩
    refine ⟨rfl, o1, Lib.hid ?_⟩
    refine (crash2 s1 hf.c.calm ht k a b hk ha hb).mono ?_
    rintro e w'' ⟨rfl, s2, b2⟩
    exact ⟨rfl, Lib.hid ⟨.nil g rfl s2 (hf.disk (hC hf.c) (Mt.crash_len' ..)) (by rw [Mt.crash_len']; exact hl), b1.trans b2⟩⟩
  | both g J j Q sl e hs hf hl =>
    subst e
    refine (crash1 hs k a b hk ha hb).mono ?_
    rintro e w' ⟨rfl, s1, b1, o1⟩
    refine ⟨rfl, o1, Lib.hid ?_⟩
    refine (crash2 s1 hf.c.calm ht k a b hk ha hb).mono ?_
    rintro e w'' ⟨rfl, s2, b2⟩
    exact ⟨rfl, Lib.hid ⟨.both g J j Q sl rfl s2 (hf.disk (hC hf.c) (Mt.crash_len' ..)) (by rw [Mt.crash_len']; exact hl), b1.trans b2⟩⟩
theorem cut1p (h : Pr6 base w B bl bm R t d p q) (n : Int) (hn : n ≤ 9223372036854775807) (k : Nat) (a b : Int) (hk : k < 18446744073709551616) (ha : -9223372036854775808 ≤ a ∧ a ≤ 9223372036854775807) (hb : -9223372036854775808 ≤ b ∧ b ≤ 9223372036854775807) :
    Calls Tryz.prog 22 #[.pointer (some ⟨B, 0, none⟩), .int .i64 n, .agg #[.int .u64 (k : Int), .int .i64 a, .int .i64 b]] w fun e w' => e = .returned (.tuple #[]) ∧ OnlyS [B, bl, bm] w w' ∧ Hid (Calls Tryz.prog 23 #[.pointer (some ⟨R, 0, none⟩), .int .i64 n, .agg #[.int .u64 (k : Int), .int .i64 a, .int .i64 b]] w' fun e w'' => e = .returned (.tuple #[]) ∧ Hid (Pr6 base w'' B bl bm R t (d.cutAt n.toNat k a b) p q ∧ Below base w w'')) := by
  have hC : Mt.Calm2 d → Mt.Calm2 (d.cutAt n.toNat k a b) := fun c => ⟨⟨c.ok.len, c.ok.most, c.ok.lasts, c.ok.waits, c.ok.room, by show n.toNat ≤ _; omega, hk, ha, hb⟩, Mt.calm_cut c.calm _ _ _ _⟩
  cases h with
  | nil g e hs hf hl =>
    subst e
    refine (cut1 hs n k a b hn hk ha hb).mono ?_
    rintro e w' ⟨rfl, s1, b1, o1⟩
    refine ⟨rfl, o1, Lib.hid ?_⟩
    refine (cut2 s1 n k a b hn hk ha hb).mono ?_
    rintro e w'' ⟨rfl, s2, b2⟩
    exact ⟨rfl, Lib.hid ⟨.nil g rfl s2 (hf.disk (hC hf.c) rfl) hl, b1.trans b2⟩⟩
  | both g J j Q sl e hs hf hl =>
    subst e
    refine (cut1 hs n k a b hn hk ha hb).mono ?_
    rintro e w' ⟨rfl, s1, b1, o1⟩
    refine ⟨rfl, o1, Lib.hid ?_⟩
    refine (cut2 s1 n k a b hn hk ha hb).mono ?_
    rintro e w'' ⟨rfl, s2, b2⟩
    exact ⟨rfl, Lib.hid ⟨.both g J j Q sl rfl s2 (hf.disk (hC hf.c) rfl) hl, b1.trans b2⟩⟩
theorem limit1p (h : Pr6 base w B bl bm R t d p q) (n : Int) (hn : n ≤ 9223372036854775807) :
    Calls Tryz.prog 24 #[.pointer (some ⟨B, 0, none⟩), .int .i64 n] w fun e w' => e = .returned (.tuple #[]) ∧ OnlyS [B, bl, bm] w w' ∧ Hid (Calls Tryz.prog 25 #[.pointer (some ⟨R, 0, none⟩), .int .i64 n] w' fun e w'' => e = .returned (.tuple #[]) ∧ Hid (Pr6 base w'' B bl bm R t (d.limit n) p q ∧ Below base w w'')) := by
  have hC : Mt.Calm2 d → Mt.Calm2 (d.limit n) := fun c => ⟨c.ok.limit n, Mt.calm_limit c.calm n⟩
  cases h with
  | nil g e hs hf hl =>
    subst e
    refine (limit1 hs n).mono ?_
    rintro e w' ⟨rfl, s1, b1, o1⟩
    refine ⟨rfl, o1, Lib.hid ?_⟩
    refine (limit2 s1 n hn).mono ?_
    rintro e w'' ⟨rfl, s2, b2⟩
    exact ⟨rfl, Lib.hid ⟨.nil g rfl s2 (hf.disk (hC hf.c) rfl) hl, b1.trans b2⟩⟩
  | both g J j Q sl e hs hf hl =>
    subst e
    refine (limit1 hs n).mono ?_
    rintro e w' ⟨rfl, s1, b1, o1⟩
    refine ⟨rfl, o1, Lib.hid ?_⟩
    refine (limit2 s1 n hn).mono ?_
    rintro e w'' ⟨rfl, s2, b2⟩
    exact ⟨rfl, Lib.hid ⟨.both g J j Q sl rfl s2 (hf.disk (hC hf.c) rfl) hl, b1.trans b2⟩⟩
/-- Append of both. -/
theorem append1p {J Q : Nat} (h : Pr6 base w B bl bm R t d (some ⟨J, 0, none⟩) (some ⟨Q, 0, none⟩)) (s : List UInt8) (hs : s.length ≤ 262144) (ht : t + 20010 < 1000000) :
    Calls Tryz.prog 27 #[.pointer (some ⟨J, 0, none⟩), .string (Mt.str s)] w fun e w' => ∃ E : Int, e = .returned (.int .i64 E) ∧ Hid (Calls Tryz.prog 28 #[.pointer (some ⟨Q, 0, none⟩), .string (Mt.str s)] w' fun e w'' => e = .returned (.int .i64 E) ∧ Hid (∃ d', Pr6 base w'' B bl bm R (t + 20010) d' (some ⟨J, 0, none⟩) (some ⟨Q, 0, none⟩) ∧ Below base w w'')) := by
  cases h with
  | both g J j Q sl e hsy hf hl =>
    subst e
    obtain ⟨_, hc, hg⟩ := hf.jn j rfl
    refine (append1 hsy s hg hc (by omega)).mono ?_
    rintro e w' ⟨rfl, h2⟩
    obtain ⟨s1, b1⟩ := h2.out
    refine ⟨_, rfl, Lib.hid ?_⟩
    refine (append2 s1 s hs hc hg ht).mono ?_
    rintro e w'' ⟨rfl, h3⟩
    obtain ⟨s2, b2⟩ := h3.out
    obtain ⟨hf2, hl2⟩ := hf.append s
    exact ⟨rfl, Lib.hid ⟨_, .both g J _ Q sl rfl s2 hf2 (by rw [hl2]; exact hl), b1.trans b2⟩⟩
theorem Mt.needs_few (k : Nat) : ∀ (bs : List (List UInt8)), (∀ b ∈ bs, b.length ≤ 110 * k + 110) → Mt.needs bs ≤ (k + 1) * bs.length
  | [], _ => by simp [Mt.needs]
  | b :: r, h => by
    have h1 := Mt.needs_few k r (fun x hx => h x (List.mem_cons_of_mem _ hx))
    have h2 := h b (List.mem_cons_self ..)
    have h3 : Mt.cellsN b.length ≤ k + 1 := by unfold Mt.cellsN; omega
    rw [Mt.needs, List.length_cons, Nat.mul_succ]
    omega
/-- Reset of both, of texts in a row that was made just now. -/
theorem reset1p {J Q : Nat} {v : Value} {bs : List (List UInt8)} (h : Pr6 base w B bl bm R t d (some ⟨J, 0, none⟩) (some ⟨Q, 0, none⟩)) (hb : Below w.heap.size w u) (ho : IsOwn 9 1 w.heap.size u v bs.length (tcs bs)) (hn : bs.length ≤ 9) (hl5 : ∀ b ∈ bs, b.length ≤ 500) (ht : t + 20010 < 1000000) :
    Calls Tryz.prog 18 #[.pointer (some ⟨J, 0, none⟩), v] u fun e w' => ∃ E : Int, e = .returned (.int .i64 E) ∧ Hid (Calls Tryz.prog 19 #[.pointer (some ⟨Q, 0, none⟩), v] w' fun e w'' => e = .returned (.int .i64 E) ∧ Hid (∃ d', Pr6 base w'' B bl bm R (t + 20010) d' (some ⟨J, 0, none⟩) (some ⟨Q, 0, none⟩) ∧ Below base u w'')) := by
  have hts : IsTs u v bs := ho.ts
  cases h with
  | both g J j Q sl e hsy hf hl =>
    subst e
    obtain ⟨P, hs2, hp, hkeep⟩ := hsy.keepRow hb ho
    have hlt := hsy.isD
    have hJ : J < w.heap.size := (JD.lt (hsy.one : JD w J B bl bm j d)).1
    refine (reset1 hs2 hts (by omega)).mono ?_
    rintro e w' ⟨rfl, h2⟩
    obtain ⟨s1, b1, o1⟩ := h2.out
    refine ⟨_, rfl, Lib.hid ?_⟩
    have hne := Mt.needs_few 4 bs (fun b hb => by have := hl5 b hb; omega)
    refine (reset2 s1 (hkeep _ _ o1 (fun k hk => ?_)) (by omega) (fun b hb => by have := hl5 b hb; omega) (by omega) ht).mono ?_
    · have h1 := hlt.ltB
      have h2 := hlt.ltL
      have h3 := hlt.ltM
      simp only [List.mem_cons, List.not_mem_nil, or_false] at hk
      rcases hk with rfl | rfl | rfl | rfl <;> omega
    rintro e w'' ⟨rfl, h3⟩
    obtain ⟨sl', s2, b2⟩ := h3.out
    obtain ⟨hf2, hl2⟩ := hf.reset bs
    exact ⟨rfl, Lib.hid ⟨_, .both (g.plus P) J _ Q sl' rfl s2 hf2 (by rw [hl2]; exact hl), b1.trans b2⟩⟩
end
end Go.Proofs.YtnioagojiipjlaaGreat
