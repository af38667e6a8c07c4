/-
  Some texts of one proof, one behind the other.
-/
import Derived.Test.YtnioagojiipjlaaGreatPk26
import Derived.Test.YtnioagojiipjlaaGreatPk30

/-
  A script of the journal's statement, as it lies.
-/
namespace Go.Proofs.YtnioagojiipjlaaGreat
open Go.RowKit Go.Maps
/-- A step's seven cells, and the texts in the row that one of them names. -/
structure St6 where
  W : Int
  N : Int
  S : List UInt8
  v : Value
  L : List (List UInt8)
  K : Nat
  T : Int
  A : Int
def St6.cells (a : St6) : Array Value := #[.int .i64 a.W, .int .i64 a.N, .string (Mt.str a.S), a.v, .int .u64 (a.K : Int), .int .i64 a.T, .int .i64 a.A]
structure St6.Ok (a : St6) : Prop where
  n : -9223372036854775808 ≤ a.N ∧ a.N ≤ 9223372036854775807
  s : a.S.length ≤ 9223372036854775807
  l : a.L.length ≤ 9223372036854775807
  b : ∀ b ∈ a.L, b.length ≤ 9223372036854775807
  k : a.K < 18446744073709551616
  t : -9223372036854775808 ≤ a.T ∧ a.T ≤ 9223372036854775807
  a : -9223372036854775808 ≤ a.A ∧ a.A ≤ 9223372036854775807
structure IsSt (w : World) (b off : Nat) (a : St6) : Prop where
  ok : a.Ok
  ts : IsTs w a.v a.L
  cells : ∀ (j : Nat) v, a.cells[j]? = some v → w.cell? ⟨b, off + j, none⟩ = some v
theorem IsSt.below {w u : World} {b off : Nat} {a : St6} (h : IsSt w b off a) (hb : Below w.heap.size w u) : IsSt u b off a := ⟨h.ok, h.ts.below hb, fun j v hj => by
  have hc := h.cells j v hj
  rw [hb.cell (p := ⟨b, off + j, none⟩) (World.block_lt_of_cell? w _ hc)]
  exact hc⟩
theorem IsSt.load {w : World} {b off : Nat} {a : St6} (h : IsSt w b off a) : (loadVar 44 ⟨b, off, none⟩).run Tryz.prog w = .ok (.agg #[.int .i64 a.W, .int .i64 a.N, .string (Mt.str a.S), a.v, .int .u64 (a.K : Int), .int .i64 a.T, .int .i64 a.A]) w := by
  refine run_loadVar_cells w 44 ⟨b, off, none⟩ a.cells _ (fun j v hv => ?_) Tryz.underlying44 rfl (by kernel_rfl)
  rw [add_off]
  exact h.cells j v (by simpa using hv)
/-- A script. -/
def IsSts (w : World) (a : Option Addr) (n : Nat) (f : Nat → St6) : Prop := n = 0 ∨ ∃ b off, a = some ⟨b, off, none⟩ ∧ ∀ k, k < n → IsSt w b (off + k * 7) (f k)
theorem IsSts.get {w u : World} {a : Option Addr} {n : Nat} {f : Nat → St6} (h : IsSts w a n f) (hb : Below w.heap.size w u) {k : Nat} (hk : k < n) : ∃ b off, a = some ⟨b, off, none⟩ ∧ IsSt u b (off + k * 7) (f k) := by
  rcases h with h | ⟨b, off, e, h⟩
  · omega
  · exact ⟨b, off, e, (h k hk).below hb⟩
section
variable {base : Nat} {w u : World} {B bl bm : Nat} {g : Rg} {t t' : Nat} {d : Mt.Dk}
/-- Pr6 new disks. -/
theorem Syn.new (h1 : IsDisk w B bl bm d) (hB : base ≤ B ∧ base ≤ bl ∧ base ≤ bm) (g1 : w.heap.size ≤ g.R) (g2 : w.heap.size ≤ g.bl) (g3 : w.heap.size ≤ g.bw) (g4 : g.bl < g.D ∧ g.bw < g.D ∧ g.P = (fun _ => False) ∧ g.D = u.heap.size) (h2 : IsR u g 0 d) (hb : Below w.heap.size w u) : Syn base u B bl bm g 0 d d none none := by
  have hB1 := h1.ltB
  have hL := h1.ltL
  have hM := h1.ltM
  have hs := hb.size
  refine ⟨⟨by omega, fun x hx => ?_, by omega⟩, h1.below hb, h2, (fun _ _ e => nomatch e), (fun _ _ _ e => nomatch e), (fun _ _ _ _ _ e => nomatch e)⟩
  simp only [List.mem_cons, List.not_mem_nil, or_false] at hx
  rcases hx with rfl | rfl | rfl <;> omega
/-- One disk on both sides, and one journal, or none. -/
inductive Pr6 (base : Nat) (w : World) (B bl bm : Nat) (R : Nat) (t : Nat) (d : Mt.Dk) : Option Addr → Option Addr → Prop
  | nil (g : Rg) : g.R = R → Syn base w B bl bm g t d d none none → Mt.Fit d none → d.lasts.length ≤ 40 → Pr6 base w B bl bm R t d none none
  | both (g : Rg) (J : Nat) (j : Mt.Jn) (Q : Nat) (sl : Int) : g.R = R → Syn base w B bl bm g t d d (some (J, j)) (some (Q, j, sl)) → Mt.Fit d (some j) → d.lasts.length ≤ 40 → Pr6 base w B bl bm R t d (some ⟨J, 0, none⟩) (some ⟨Q, 0, none⟩)
theorem Pr6.below {p q : Option Addr} {R : Nat} (h : Pr6 base w B bl bm R t d p q) (hb : Below w.heap.size w u) : Pr6 base u B bl bm R t d p q := by
  cases h with
  | nil g e hs hf hl => exact .nil g e (hs.below hb) hf hl
  | both g J j Q sl e hs hf hl => exact .both g J j Q sl e (hs.below hb) hf hl
theorem Syn.isR {o1 : Option (Nat × Mt.Jn)} {o2 : Option (Nat × Mt.Jn × Int)} {d1 d2 : Mt.Dk} (h : Syn base w B bl bm g t d1 d2 o1 o2) : IsR w g t d2 := Docu.isR h.two
theorem Syn.isD {o1 : Option (Nat × Mt.Jn)} {o2 : Option (Nat × Mt.Jn × Int)} {d1 d2 : Mt.Dk} (h : Syn base w B bl bm g t d1 d2 o1 o2) : IsDisk w B bl bm d1 := Prog.isD h.one
/-- Both images. -/
theorem image1 {R : Nat} {p q : Option Addr} (h : Pr6 base w B bl bm R t d p q) : Calls Tryz.prog 14 #[.pointer (some ⟨B, 0, none⟩)] w fun e w' => e = .returned (.string (Mt.str d.image)) ∧ Below w.heap.size w w' := by
  cases h with
  | nil g e hs hf hl => exact image_any hs.isD
  | both g J j Q sl e hs hf hl => exact image_any hs.isD
theorem image2 {R : Nat} {p q : Option Addr} (h : Pr6 base w B bl bm R t d p q) : Calls Tryz.prog 15 #[.pointer (some ⟨R, 0, none⟩)] w fun e w' => e = .returned (.string (Mt.str d.image)) ∧ Below w.heap.size w w' := by
  cases h with
  | nil g e hs hf hl => subst e; exact eimage_any hs.isR
  | both g J j Q sl e hs hf hl => subst e; exact eimage_any hs.isR
theorem alike2 {R : Nat} {p q : Option Addr} (h : Pr6 base w B bl bm R t d p q) : Calls Tryz.prog 16 #[.pointer p, .pointer q] w fun e w' => e = .returned (.bool true) ∧ Below w.heap.size w w' := by
  cases h with
  | nil g e hs hf hl =>
    refine (alike_none w).mono ?_
    rintro e w' ⟨h1, rfl⟩
    exact ⟨h1, Below.refl _ _⟩
  | both g J j Q sl e hs hf hl => exact alike_both hs.one hs.two
/-- Behind both Opens. -/
theorem Pr6.opened {P P2 : Nat → Prop} {J Q : Nat} {sl : Int} {d0 : Mt.Dk} {R : Nat} (hs : Syn base w B bl bm ((g.plus P).plus P2) t (Mt.opD d0) (Mt.opD d0) ((Mt.opJ d0).map fun j => (J, j)) ((Mt.opJ d0).map fun j => (Q, j, sl))) (hR : g.R = R) (hc : Mt.Calm2 d0) (hl : d0.lasts.length ≤ 40) : Pr6 base w B bl bm R t (Mt.opD d0) ((Mt.opJ d0).map fun _ => ⟨J, 0, none⟩) ((Mt.opJ d0).map fun _ => ⟨Q, 0, none⟩) := by
  obtain ⟨hf, hz⟩ := Mt.Fit.open hc
  have hl' : (Mt.opD d0).lasts.length ≤ 40 := by rw [hz]; exact hl
  generalize Mt.opD d0 = d1 at *
  generalize Mt.opJ d0 = o at *
  cases o with
  | none => exact .nil ((g.plus P).plus P2) hR hs hf hl'
  | some j => exact .both ((g.plus P).plus P2) J j Q sl hR hs hf hl'
theorem Pr6.calm {R : Nat} {p q : Option Addr} (h : Pr6 base w B bl bm R t d p q) : Mt.Calm2 d ∧ d.lasts.length ≤ 40 ∧ base ≤ w.heap.size := by
  cases h with
  | nil g e hs hf hl => exact ⟨hf.c, hl, hs.size⟩
  | both g J j Q sl e hs hf hl => exact ⟨hf.c, hl, hs.size⟩
theorem Pr6.lts {R : Nat} {p q : Option Addr} (h : Pr6 base w B bl bm R t d p q) : B < w.heap.size ∧ bl < w.heap.size ∧ bm < w.heap.size := by
  cases h with
  | nil g e hs hf hl => exact ⟨hs.isD.ltB, hs.isD.ltL, hs.isD.ltM⟩
  | both g J j Q sl e hs hf hl => exact ⟨hs.isD.ltB, hs.isD.ltL, hs.isD.ltM⟩
theorem Mt.opL_len {d : Mt.Dk} (h : d.Ok) : (Mt.opL d).length ≤ 9223372036854775807 := by
  unfold Mt.opL
  split
  · have := (Mt.findJ_recs d h.most).2
    omega
  · exact Nat.zero_le _
end
end Go.Proofs.YtnioagojiipjlaaGreat

/-
  A step's two calls, one behind the other, over both sides.
-/
namespace Go.Proofs.YtnioagojiipjlaaGreat
open Go.RowKit Go.Maps
section
variable {base : Nat} {w u : World} {B bl bm R : Nat} {t : Nat} {d : Mt.Dk} {p q : Option Addr}
theorem open1p (h : Pr6 base w B bl bm R t d p q) : Calls Tryz.prog 11 #[.pointer (some ⟨B, 0, none⟩)] w fun e w' => ∃ (x : Value) (J : Nat) (P : Nat → Prop) (g : Rg), e = .returned (.tuple #[.pointer ((Mt.opJ d).map fun _ => ⟨J, 0, none⟩), x, .int .i64 (Mt.opE d)]) ∧
    Hid (g.R = R ∧ Syn base w' B bl bm (g.plus P) t (Mt.opD d) d ((Mt.opJ d).map fun j => (J, j)) none ∧ Below base w w' ∧ TsK w' (g.plus P) x (Mt.opL d)) := by
  cases h with
  | nil g e hs hf hl =>
    refine (open1 hs).mono ?_
    rintro e' w' ⟨x, J, P, h1, h2⟩
    exact ⟨x, J, P, g, h1, Lib.hid ⟨e, h2.out⟩⟩
  | both g J j Q sl e hs hf hl =>
    refine (open1 hs).mono ?_
    rintro e' w' ⟨x, J, P, h1, h2⟩
    exact ⟨x, J, P, g, h1, Lib.hid ⟨e, h2.out⟩⟩
theorem crash1p (h : Pr6 base w B bl bm R t d p q) (ht : t < 1000000) (k : Nat) (a b : Int) (hk : k < 18446744073709551616) (ha : -9223372036854775808 ≤ a ∧ a ≤ 9223372036854775807) (hb : -9223372036854775808 ≤ b ∧ b ≤ 9223372036854775807) :
    Calls Tryz.prog 20 #[.pointer (some ⟨B, 0, none⟩), .agg #[.int .u64 (k : Int), .int .i64 a, .int .i64 b]] w fun e w' => e = .returned (.tuple #[]) ∧ OnlyS [B, bl, bm] w w' ∧ Hid (Calls Tryz.prog 21 #[.pointer (some ⟨R, 0, none⟩), .agg #[.int .u64 (k : Int), .int .i64 a, .int .i64 b]] w' fun e w'' => e = .returned (.tuple #[]) ∧ Hid (Pr6 base w'' B bl bm R (t + 1) (d.crash k a b) p q ∧ Below base w w'')) := by
  have hC : Mt.Calm2 d → Mt.Calm2 (d.crash k a b) := fun c => ⟨c.ok.crash k a b, Mt.calm_crash _ _ _ _⟩
  cases h with
  | nil g e hs hf hl =>
    subst e
    refine (crash1 hs k a b hk ha hb).mono ?_
    rintro e w' ⟨rfl, s1, b1, o1⟩
    refine ⟨rfl, o1, Lib.hid ?_⟩
    refine (crash2 s1 hf.c.calm ht k a b hk ha hb).mono ?_
    rintro e w'' ⟨rfl, s2, b2⟩
    exact ⟨rfl, Lib.hid ⟨.nil g rfl s2 (hf.disk (hC hf.c) (Mt.crash_len' ..)) (by rw [Mt.crash_len']; exact hl), b1.trans b2⟩⟩
  | both g J j Q sl e hs hf hl =>
    subst e
    refine (crash1 hs k a b hk ha hb).mono ?_
    rintro e w' ⟨rfl, s1, b1, o1⟩
    refine ⟨rfl, o1, Lib.hid ?_⟩
    refine (crash2 s1 hf.c.calm ht k a b hk ha hb).mono ?_
    rintro e w'' ⟨rfl, s2, b2⟩
    exact ⟨rfl, Lib.hid ⟨.both g J j Q sl rfl s2 (hf.disk (hC hf.c) (Mt.crash_len' ..)) (by rw [Mt.crash_len']; exact hl), b1.trans b2⟩⟩
theorem cut1p (h : Pr6 base w B bl bm R t d p q) (n : Int) (hn : n ≤ 9223372036854775807) (k : Nat) (a b : Int) (hk : k < 18446744073709551616) (ha : -9223372036854775808 ≤ a ∧ a ≤ 9223372036854775807) (hb : -9223372036854775808 ≤ b ∧ b ≤ 9223372036854775807) :
    Calls Tryz.prog 22 #[.pointer (some ⟨B, 0, none⟩), .int .i64 n, .agg #[.int .u64 (k : Int), .int .i64 a, .int .i64 b]] w fun e w' => e = .returned (.tuple #[]) ∧ OnlyS [B, bl, bm] w w' ∧ Hid (Calls Tryz.prog 23 #[.pointer (some ⟨R, 0, none⟩), .int .i64 n, .agg #[.int .u64 (k : Int), .int .i64 a, .int .i64 b]] w' fun e w'' => e = .returned (.tuple #[]) ∧ Hid (Pr6 base w'' B bl bm R t (d.cutAt n.toNat k a b) p q ∧ Below base w w'')) := by
  have hC : Mt.Calm2 d → Mt.Calm2 (d.cutAt n.toNat k a b) := fun c => ⟨⟨c.ok.len, c.ok.most, c.ok.lasts, c.ok.waits, c.ok.room, by show n.toNat ≤ _; omega, hk, ha, hb⟩, Mt.calm_cut c.calm _ _ _ _⟩
  cases h with
  | nil g e hs hf hl =>
    subst e
    refine (cut1 hs n k a b hn hk ha hb).mono ?_
    rintro e w' ⟨rfl, s1, b1, o1⟩
    refine ⟨rfl, o1, Lib.hid ?_⟩
    refine (cut2 s1 n k a b hn hk ha hb).mono ?_
    rintro e w'' ⟨rfl, s2, b2⟩
    exact ⟨rfl, Lib.hid ⟨.nil g rfl s2 (hf.disk (hC hf.c) rfl) hl, b1.trans b2⟩⟩
  | both g J j Q sl e hs hf hl =>
    subst e
    refine (cut1 hs n k a b hn hk ha hb).mono ?_
    rintro e w' ⟨rfl, s1, b1, o1⟩
    refine ⟨rfl, o1, Lib.hid ?_⟩
    refine (cut2 s1 n k a b hn hk ha hb).mono ?_
    rintro e w'' ⟨rfl, s2, b2⟩
    exact ⟨rfl, Lib.hid ⟨.both g J j Q sl rfl s2 (hf.disk (hC hf.c) rfl) hl, b1.trans b2⟩⟩
theorem limit1p (h : Pr6 base w B bl bm R t d p q) (n : Int) (hn : n ≤ 9223372036854775807) :
    Calls Tryz.prog 24 #[.pointer (some ⟨B, 0, none⟩), .int .i64 n] w fun e w' => e = .returned (.tuple #[]) ∧ OnlyS [B, bl, bm] w w' ∧ Hid (Calls Tryz.prog 25 #[.pointer (some ⟨R, 0, none⟩), .int .i64 n] w' fun e w'' => e = .returned (.tuple #[]) ∧ Hid (Pr6 base w'' B bl bm R t (d.limit n) p q ∧ Below base w w'')) := by
  have hC : Mt.Calm2 d → Mt.Calm2 (d.limit n) := fun c => ⟨c.ok.limit n, Mt.calm_limit c.calm n⟩
  cases h with
  | nil g e hs hf hl =>
    subst e
    refine (limit1 hs n).mono ?_
    rintro e w' ⟨rfl, s1, b1, o1⟩
    refine ⟨rfl, o1, Lib.hid ?_⟩
    refine (limit2 s1 n hn).mono ?_
    rintro e w'' ⟨rfl, s2, b2⟩
    exact ⟨rfl, Lib.hid ⟨.nil g rfl s2 (hf.disk (hC hf.c) rfl) hl, b1.trans b2⟩⟩
  | both g J j Q sl e hs hf hl =>
    subst e
    refine (limit1 hs n).mono ?_
    rintro e w' ⟨rfl, s1, b1, o1⟩
    refine ⟨rfl, o1, Lib.hid ?_⟩
    refine (limit2 s1 n hn).mono ?_
    rintro e w'' ⟨rfl, s2, b2⟩
    exact ⟨rfl, Lib.hid ⟨.both g J j Q sl rfl s2 (hf.disk (hC hf.c) rfl) hl, b1.trans b2⟩⟩
/-- Append of both. -/
theorem append1p {J Q : Nat} (h : Pr6 base w B bl bm R t d (some ⟨J, 0, none⟩) (some ⟨Q, 0, none⟩)) (s : List UInt8) (hs : s.length ≤ 262144) (ht : t + 20010 < 1000000) :
    Calls Tryz.prog 27 #[.pointer (some ⟨J, 0, none⟩), .string (Mt.str s)] w fun e w' => ∃ E : Int, e = .returned (.int .i64 E) ∧ Hid (Calls Tryz.prog 28 #[.pointer (some ⟨Q, 0, none⟩), .string (Mt.str s)] w' fun e w'' => e = .returned (.int .i64 E) ∧ Hid (∃ d', Pr6 base w'' B bl bm R (t + 20010) d' (some ⟨J, 0, none⟩) (some ⟨Q, 0, none⟩) ∧ Below base w w'')) := by
  cases h with
  | both g J j Q sl e hsy hf hl =>
    subst e
    obtain ⟨_, hc, hg⟩ := hf.jn j rfl
    refine (append1 hsy s hg hc (by omega)).mono ?_
    rintro e w' ⟨rfl, h2⟩
    obtain ⟨s1, b1⟩ := h2.out
    refine ⟨_, rfl, Lib.hid ?_⟩
    refine (append2 s1 s hs hc hg ht).mono ?_
    rintro e w'' ⟨rfl, h3⟩
    obtain ⟨s2, b2⟩ := h3.out
    obtain ⟨hf2, hl2⟩ := hf.append s
    exact ⟨rfl, Lib.hid ⟨_, .both g J _ Q sl rfl s2 hf2 (by rw [hl2]; exact hl), b1.trans b2⟩⟩
theorem Mt.needs_few (k : Nat) : ∀ (bs : List (List UInt8)), (∀ b ∈ bs, b.length ≤ 110 * k + 110) → Mt.needs bs ≤ (k + 1) * bs.length
  | [], _ => by simp [Mt.needs]
  | b :: r, h => by
    have h1 := Mt.needs_few k r (fun x hx => h x (List.mem_cons_of_mem _ hx))
    have h2 := h b (List.mem_cons_self ..)
    have h3 : Mt.cellsN b.length ≤ k + 1 := by unfold Mt.cellsN; omega
    rw [Mt.needs, List.length_cons, Nat.mul_succ]
    omega
/-- Reset of both, of texts in a row that was made just now. -/
theorem reset1p {J Q : Nat} {v : Value} {bs : List (List UInt8)} (h : Pr6 base w B bl bm R t d (some ⟨J, 0, none⟩) (some ⟨Q, 0, none⟩)) (hb : Below w.heap.size w u) (ho : IsOwn 9 1 w.heap.size u v bs.length (tcs bs)) (hn : bs.length ≤ 9) (hl5 : ∀ b ∈ bs, b.length ≤ 500) (ht : t + 20010 < 1000000) :
    Calls Tryz.prog 18 #[.pointer (some ⟨J, 0, none⟩), v] u fun e w' => ∃ E : Int, e = .returned (.int .i64 E) ∧ Hid (Calls Tryz.prog 19 #[.pointer (some ⟨Q, 0, none⟩), v] w' fun e w'' => e = .returned (.int .i64 E) ∧ Hid (∃ d', Pr6 base w'' B bl bm R (t + 20010) d' (some ⟨J, 0, none⟩) (some ⟨Q, 0, none⟩) ∧ Below base u w'')) := by
  have hts : IsTs u v bs := ho.ts
  cases h with
  | both g J j Q sl e hsy hf hl =>
    subst e
    obtain ⟨P, hs2, hp, hkeep⟩ := hsy.keepRow hb ho
    have hlt := hsy.isD
    have hJ : J < w.heap.size := (JD.lt (hsy.one : JD w J B bl bm j d)).1
    refine (reset1 hs2 hts (by omega)).mono ?_
    rintro e w' ⟨rfl, h2⟩
    obtain ⟨s1, b1, o1⟩ := h2.out
    refine ⟨_, rfl, Lib.hid ?_⟩
    have hne := Mt.needs_few 4 bs (fun b hb => by have := hl5 b hb; omega)
    refine (reset2 s1 (hkeep _ _ o1 (fun k hk => ?_)) (by omega) (fun b hb => by have := hl5 b hb; omega) (by omega) ht).mono ?_
    · have h1 := hlt.ltB
      have h2 := hlt.ltL
      have h3 := hlt.ltM
      simp only [List.mem_cons, List.not_mem_nil, or_false] at hk
      rcases hk with rfl | rfl | rfl | rfl <;> omega
    rintro e w'' ⟨rfl, h3⟩
    obtain ⟨sl', s2, b2⟩ := h3.out
    obtain ⟨hf2, hl2⟩ := hf.reset bs
    exact ⟨rfl, Lib.hid ⟨_, .both (g.plus P) J _ Q sl' rfl s2 hf2 (by rw [hl2]; exact hl), b1.trans b2⟩⟩
end
end Go.Proofs.YtnioagojiipjlaaGreat

/-
  The example: a record that lasts.
-/
namespace Go.Proofs.YtnioagojiipjlaaGreat
open Go.RowKit
set_option maxRecDepth 100000 in
set_option maxHeartbeats 1000000 in
theorem awake6_any (w : World) : Calls Tryz.prog 8 #[] w fun e w' => e = .returned (.bool true) ∧ Below w.heap.size w w' := by
  have HNEW : Hid (Calls Tryz.prog 6 #[.int .i64 6] w fun e w' => e = .returned (.pointer (some ⟨w.heap.size + 2, 0, none⟩)) ∧ IsDisk w' (w.heap.size + 2) w.heap.size (w.heap.size + 1) Mt.aw0 ∧ Below w.heap.size w w') := Lib.hid (new_any 6 w)
  have HND := Lib.hid (fun u => need_yes 111 u (by omega))
  go_enter Tryz.func8, Tryz.ntmps8
  go_wp2_with fail
  refine (HNEW.out).mono ?_
  rintro e w1 ⟨rfl, hd, hb⟩
  generalize hB : w.heap.size + 2 = B at *
  generalize hbm : w.heap.size + 1 = bm at *
  have HBN := Lib.hid (And.intro hB hbm)
  have HD1 := Lib.hid hd
  have HB1 := Lib.hid hb
  clear hB hbm hd hb HNEW
  have HOP := Lib.hid (open_on HD1.out (by decide +kernel) (by decide +kernel))
  go_wp2_with fail
  refine (HOP.out).mono ?_
  rintro e w2 ⟨h1, -, ho⟩
  obtain ⟨J, x, j', hJ, rfl, hx, hj, hjl⟩ := h1 Mt.aw1_ok
  obtain rfl := hjl
  have HJ := Lib.hid hj
  have HJL := Lib.hid (show w.heap.size ≤ J by have := HB1.out.size; omega)
  have hbel : Below w.heap.size w w2 := HB1.out.trans (ho.toBelow (by intro k hk; simp at hk; have := HBN.out; omega) HB1.out.size)
  have HB2 := Lib.hid hbel
  rw [Mt.aw0_none] at hx
  obtain ⟨a0, c0, rfl, -, -⟩ := hx
  have HAP := Lib.hid (append_any6 hj [97] (by have := Mt.aw1_in.1; show Mt.aw1.2.1.gen < _; omega) (by have := Mt.aw1_in.2; show Mt.aw1.2.1.count ≤ Mt.aw1.2.1.used; omega) (by simp))
  clear h1 ho hj hbel HOP hJ
  go_wp2_with fail
  refine (HAP.out).mono ?_
  rintro e w3 ⟨rfl, hj, ho⟩
  rw [show (Mt.appendJ (Mt.openJ Mt.aw0).1 (Mt.openJ Mt.aw0).2.1 [97]).2.2 = 0 from Mt.aw2_ok]
  have HJ3 := Lib.hid hj
  have HB3 := Lib.hid (HB2.out.trans (ho.toBelow (by intro k hk; simp at hk; have := HBN.out; have := HJL.out; omega) HB2.out.size))
  have HGE := Lib.hid (gen_any hj.jn hj.gen)
  have HLE := Lib.hid (left_any hj)
  rw [show (Mt.appendJ (Mt.openJ Mt.aw0).1 (Mt.openJ Mt.aw0).2.1 [97]).2.1.gen = 1 from Mt.aw2_in.1] at HGE
  rw [show (Mt.appendJ (Mt.openJ Mt.aw0).1 (Mt.openJ Mt.aw0).2.1 [97]).2.1.left (Mt.appendJ (Mt.openJ Mt.aw0).1 (Mt.openJ Mt.aw0).2.1 [97]).1 = 1 from Mt.aw2_in.2] at HLE
  clear hj ho HAP
  go_wp2_with fail
  refine (HGE.out).mono ?_
  rintro e w4 ⟨rfl, rfl⟩
  go_wp2_with fail
  refine (HLE.out).mono ?_
  rintro e w4 ⟨rfl, hb⟩
  have hj4 := HJ3.out.below hb
  have HB4 := Lib.hid (HB3.out.trans (hb.mono HB3.out.size))
  have HCR := Lib.hid (crash_any hj4.dk 0 (-1) 0 (by omega) (by omega) (by omega))
  clear hb hj4
  go_wp2_with fail
  refine (HCR.out).mono ?_
  rintro e w5 ⟨rfl, hd, ho⟩
  have HB5 := Lib.hid (HB4.out.trans (ho.toBelow (by intro k hk; simp at hk; have := HBN.out; omega) HB4.out.size))
  have HOP := Lib.hid (open_on hd Mt.aw3_in.1 Mt.aw3_in.2)
  clear hd ho HCR
  go_wp2_with fail
  refine (HOP.out).mono ?_
  rintro e w6 ⟨h1, -, ho⟩
  obtain ⟨J2, x2, -, -, rfl, hx2, -, -⟩ := h1 Mt.aw3_ok
  have HB6 := Lib.hid (HB5.out.trans (ho.toBelow (by intro k hk; simp at hk; have := HBN.out; omega) HB5.out.size))
  have hx3 : IsTs w6 x2 [[97]] := by rw [← Mt.aw3_recs]; exact hx2
  obtain ⟨a2, c2, rfl, HX2⟩ := hx3.open
  obtain ⟨b3, o3, rfl, -, hcell⟩ := HX2.out 0 (by decide)
  have hcell' : w6.cell? ⟨b3, o3, none⟩ = some (.string ⟨#[97]⟩) := hcell
  clear h1 ho HOP hx2 hx3 HX2 hcell
  go_wp2_with fail
  refine (HND.out _).mono ?_
  rintro e w7 ⟨rfl, rfl⟩
  have hc2 : ((Mt.cellsN 111 : Nat) : Int) = 2 := by decide
  rw [hc2]
  go_wp2_with fail
  go_ret
  exact ⟨rfl, HB6.out⟩
end Go.Proofs.YtnioagojiipjlaaGreat

/-
  What Open leaves behind, in full.
-/
namespace Go.Proofs.YtnioagojiipjlaaGreat
open Go.RowKit
theorem LaidJ.eq {bs : List (List UInt8)} {j' c : Mt.Jn} (h : LaidJ bs j' c) : j' = c := by
  exact h
end Go.Proofs.YtnioagojiipjlaaGreat
