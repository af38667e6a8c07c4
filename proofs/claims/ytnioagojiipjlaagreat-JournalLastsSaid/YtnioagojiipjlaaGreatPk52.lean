/-
  Some texts of one proof, one behind the other.
-/
import Derived.Test.YtnioagojiipjlaaGreatPk29
import Derived.Test.YtnioagojiipjlaaGreatPk51
set_option linter.unusedVariables false
set_option linter.unusedSimpArgs false

/-
  The list of what was told: a row that both sides keep; calls of both sides over it.
-/
namespace Go.Proofs.YtnioagojiipjlaaGreat
open Go.RowKit Go.Maps

/-- The list of what was told. -/
def ToldP (base : Nat) (w : World) (g : Rg) (B bl bm : Nat) (v : Value) (ls : List (List UInt8)) : Prop :=
  (ls = [] ∧ v = .slice none 0 0) ∨ ∃ G, ls ≠ [] ∧ IsRw 9 1 w G v ls.length (tcs ls) ∧ base ≤ G ∧ g.P G ∧ (G ≠ B ∧ G ≠ bl ∧ G ≠ bm) ∧ (G ≠ g.R ∧ G ≠ g.bl ∧ G ≠ g.bw)
section
variable {base : Nat} {w u : World} {B bl bm J Q : Nat} {g : Rg} {t t' : Nat} {d d' d1 d2 : Mt.Dk} {j j1 : Mt.Jn} {sl : Int} {v : Value} {ls : List (List UInt8)} {o1 : Option (Nat × Mt.Jn)} {o2 : Option (Nat × Mt.Jn × Int)}
theorem ToldP.nil (base : Nat) (w : World) (g : Rg) (B bl bm : Nat) : ToldP base w g B bl bm (.slice none 0 0) [] := .inl ⟨rfl, rfl⟩
theorem ToldP.below (h : ToldP base w g B bl bm v ls) (hb : Below w.heap.size w u) : ToldP base u g B bl bm v ls :=
  h.imp id fun ⟨G, h0, h1, h2⟩ => ⟨G, h0, h1.below hb, h2⟩
theorem ToldP.plus (h : ToldP base w g B bl bm v ls) (P : Nat → Prop) : ToldP base w (g.plus P) B bl bm v ls :=
  h.imp id fun ⟨G, h0, h1, h2, h3, h4, h5⟩ => ⟨G, h0, h1, h2, .inl h3, h4, h5⟩
theorem tcs_get (ls : List (List UInt8)) (j : Nat) (hj : j < ls.length) : (tcs ls)[j]'(by rw [tcs_length]; exact hj) = .string (Mt.str ls[j]) := by simp [tcs]
theorem rw_str0 {G : Nat} (h : IsRw 9 1 w G v ls.length (tcs ls)) (hne : ls ≠ []) : ∃ o s, G < w.heap.size ∧ w.cell? ⟨G, o, none⟩ = some (.string s) := by
  have hl : 0 < ls.length := List.length_pos_iff.2 hne
  obtain ⟨off, cap, _, _, h2, h3⟩ := h.cell hl
  have := h3 0 (by rw [tcs_length]; exact hl)
  rw [tcs_get ls 0 hl] at this
  exact ⟨_, _, h2, this⟩
theorem ToldP.ts (h : ToldP base w g B bl bm v ls) : IsTs w v ls := by
  rcases h with ⟨rfl, rfl⟩ | ⟨G, h0, h1, _⟩
  · exact ⟨none, 0, rfl, Nat.le_refl _, .inl rfl⟩
  · have hl : 0 < ls.length := List.length_pos_iff.2 h0
    obtain ⟨off, cap, rfl, h2, h3, h4⟩ := h1.cell hl
    exact ⟨_, cap, rfl, h2, .inr ⟨G, off, rfl, h3, fun i hi => by
      have := h4 i (by rw [tcs_length]; exact hi)
      rw [tcs_get ls i hi] at this
      exact this⟩⟩
theorem ToldP.kept {G : Nat} (h1 : IsRw 9 1 w G v ls.length (tcs ls)) (h0 : ls ≠ []) (hk : u.heap[G]? = w.heap[G]?) (h2 : base ≤ G) (h3 : g.P G) (h4 : G ≠ B ∧ G ≠ bl ∧ G ≠ bm) (h5 : G ≠ g.R ∧ G ≠ g.bl ∧ G ≠ g.bw) : ToldP base u g B bl bm v ls :=
  .inr ⟨G, h0, h1.kept hk, h2, h3, h4, h5⟩
/-- The program's disk was written. -/
theorem ToldP.disk1 (h : ToldP base w g B bl bm v ls) (ho : OnlyS [B, bl, bm] w u) : ToldP base u g B bl bm v ls := by
  rcases h with h | ⟨G, h0, h1, h2, h3, h4, h5⟩
  · exact .inl h
  · obtain ⟨o, s, hs, _⟩ := rw_str0 h1 h0
    exact ToldP.kept h1 h0 (ho.block G hs (by simp; exact h4)) h2 h3 h4 h5
/-- The program's journal was written. -/
theorem ToldP.jn1 (h : ToldP base w g B bl bm v ls) (hj : JD w J B bl bm j d) (ho : OnlyS [J, B, bl, bm] w u) : ToldP base u g B bl bm v ls := by
  rcases h with h | ⟨G, h0, h1, h2, h3, h4, h5⟩
  · exact .inl h
  · obtain ⟨o, s, hs, hc⟩ := rw_str0 h1 h0
    exact ToldP.kept h1 h0 (ho.block G hs (hj.noStr hc)) h2 h3 h4 h5
/-- The document's disk was written. -/
theorem ToldP.disk2 (h : ToldP base w g B bl bm v ls) (ho : Fr g w u) : ToldP base u g B bl bm v ls := by
  rcases h with h | ⟨G, h0, h1, h2, h3, h4, h5⟩
  · exact .inl h
  · obtain ⟨o, s, hs, _⟩ := rw_str0 h1 h0
    exact ToldP.kept h1 h0 (ho.block G (.inr h3) hs h5.1 h5.2.1 h5.2.2) h2 h3 h4 h5
theorem QD.noStr (h : QD w Q g t j sl d) {b o : Nat} {s : ByteArray} (hc : w.cell? ⟨b, o, none⟩ = some (.string s)) : b ≠ Q := by
  rintro rfl
  have h1 := h.jn
  unfold IsQ rjnV at h1
  simp [World.cell?, h1] at hc
  match o, hc with
  | 0, hc | 1, hc | 2, hc | 3, hc | 4, hc | 5, hc | 6, hc => simp at hc
  | o + 7, hc => simp at hc
/-- The document's journal was written. -/
theorem ToldP.jn2 (h : ToldP base w g B bl bm v ls) (hj : QD w Q g t j sl d) (ho : FrQ g Q w u) : ToldP base u g B bl bm v ls := by
  rcases h with h | ⟨G, h0, h1, h2, h3, h4, h5⟩
  · exact .inl h
  · obtain ⟨o, s, hs, hc⟩ := rw_str0 h1 h0
    exact ToldP.kept h1 h0 (ho.block G (.inr h3) hs h5.1 h5.2.1 h5.2.2 (hj.noStr hc)) h2 h3 h4 h5

/-- A kept block was written; new ones are kept from now on. -/
theorem Syn.wrote (h : Syn base w B bl bm g t d1 d2 (some (J, j)) (some (Q, j1, sl))) {G : Nat} (ho : OnlyS [G] w u) (hG : g.P G) (h1 : G ≠ B ∧ G ≠ bl ∧ G ≠ bm) (h2 : G ≠ J) (h3 : G ≠ Q) (h4 : G ≠ g.R ∧ G ≠ g.bl ∧ G ≠ g.bw) {P : Nat → Prop} (hP : ∀ k, P k → w.heap.size ≤ k ∧ k < u.heap.size) : Syn base u B bl bm (g.plus P) t d1 d2 (some (J, j)) (some (Q, j1, sl)) := by
  have hj : JD w J B bl bm j d1 := h.one
  have hq : QD w Q g t j1 sl d2 := h.two
  refine ⟨h.apart.plus P, hj.only ho (by simpa using h2.symm) (by simpa using h1.1.symm) (by simpa using h1.2.1.symm) (by simpa using h1.2.2.symm), ⟨(ho.block Q (lt_of_block hq.jn) (by simpa using h3.symm)).trans hq.jn, ?_, .inl hq.kept, hq.ne, hq.four, hq.half, hq.head, hq.gen, hq.used, hq.count, hq.slot⟩, (fun J j e => ⟨.inl (h.j1 J j e).1, (h.j1 J j e).2⟩), h.j2, h.ne⟩
  exact hq.dk.apartPlus ho (fun k hk => by
    rw [List.mem_singleton] at hk
    subst hk
    exact ⟨.inr hG, h4⟩) hP
theorem tcs_one1 (ls : List (List UInt8)) : ∀ u ∈ tcs ls, u.oneCell' = true := by
  intro u hu
  unfold tcs at hu
  rw [List.mem_map] at hu
  obtain ⟨_, _, rfl⟩ := hu
  rfl
/-- One more that was told. -/
theorem told_push (h : Syn base w B bl bm g t d1 d2 (some (J, j)) (some (Q, j1, sl))) (ht : ToldP base w g B bl bm v ls) (b : List UInt8) (hn : ls.length ≤ 1000) :
    ∃ a' c' w', (∀ ty, (Builtin.append_ #[30, 30] ty #[v, .slice (some ⟨w.heap.size, 0, none⟩) 1 1]).run Tryz.prog (w.alloc (.cells #[.string (Mt.str b)] 9)) = .ok (.slice a' (ls.length + 1) c') w') ∧
      Hid (∃ P, Syn base w' B bl bm (g.plus P) t d1 d2 (some (J, j)) (some (Q, j1, sl)) ∧ ToldP base w' (g.plus P) B bl bm (.slice a' (ls.length + 1) c') (ls ++ [b]) ∧ Below base w w' ∧ ∀ (N : Nat) (y : Value) (l2 : List (List UInt8)), (∀ a n c, v = .slice (some a) n c → a.block < N) → (∀ a n c, y = .slice (some a) n c → N ≤ a.block) → IsTs w y l2 → IsTs w' y l2) := by
  obtain ⟨i0, hi, hz0, hz1, hz2⟩ := info_parts Tryz.infoStr6
  have hbel := (Below.refl w.heap.size w).alloc (Nat.le_refl _) (.cells #[.string (Mt.str b)] 9)
  have hsz : (w.alloc (.cells #[.string (Mt.str b)] 9)).heap.size = w.heap.size + 1 := by simp
  have hS := h.below hbel
  have hbs := h.size
  have src : Src Tryz.prog i0.size 30 (.slice (some ⟨w.heap.size, 0, none⟩) 1 1) 1 [.string (Mt.str b)] (w.alloc (.cells #[.string (Mt.str b)] 9)) :=
    Src.ofSlice _ Tryz.underlying30 ⟨w.heap.size, 0, none⟩ 1 1 _ (by rw [hz1]; rfl) (fun j u hu => by
      rw [add_off, cell_of_row _ w.heap.size _ _ _ _ (heap_alloc_new w _), Nat.zero_add]
      simpa using hu) (fun u hu => by rw [List.mem_singleton.1 hu]; rfl)
  have htc : tcs ls ++ [.string (Mt.str b)] = tcs (ls ++ [b]) := by simp [tcs]
  have hj : JD w J B bl bm j d1 := h.one
  have hq : QD w Q g t j1 sl d2 := h.two
  have hlt := h.apart.lt
  have hsz2 := h.two.isR.size
  obtain ⟨l1, l2, l3, l4, l5⟩ := hq.lts
  have hne : ls ++ [b] ≠ [] := by simp
  rcases ht with ⟨rfl, rfl⟩ | ⟨G, h0, h1, h2, h3, h4, h5⟩
  · obtain ⟨v', w', g', hrun, hrw, hg', ho⟩ := rw_append (T := 30) (tx := 30) Tryz.underlying30 hi hz0 hz1 hz2 rfl (IsRw.nil 9 1 (w.alloc (.cells #[.string (Mt.str b)] 9)) (w.heap.size + 1)) (by simp) _ 1 _ src (by omega) (by omega)
    obtain ⟨a', c', rfl⟩ := hrw.form
    have hgs : g' = w.heap.size + 1 := by rcases hg' with e | e <;> omega
    have hrw' : IsRw 9 1 w' g' (.slice a' (0 + 1) c') (([] : List (List UInt8)) ++ [b]).length (tcs ([] ++ [b])) := hrw
    obtain ⟨o, s, hlt', _⟩ := rw_str0 hrw' hne
    have hbl : Below (w.heap.size + 1) (w.alloc (.cells #[.string (Mt.str b)] 9)) w' := ho.toBelow (by simp) (by omega)
    have hb2 : Below w.heap.size w w' := hbel.trans (hbl.mono (by omega))
    have hR : IsR w' (g.plus fun k => k = g') t d2 := hq.dk.apartPlus (S := []) (Below.onlyS hb2 (Nat.le_refl _)) (fun k hk => by cases hk) (fun k hk => by subst hk; omega)
    have hu := h.below hb2
    have hqu : QD w' Q g t j1 sl d2 := hu.two
    refine ⟨a', c', w', hrun, Lib.hid ⟨fun k => k = g', ⟨hu.apart.plus _, hu.one, ⟨hqu.jn, hR, .inl hqu.kept, hqu.ne, hqu.four, hqu.half, hqu.head, hqu.gen, hqu.used, hqu.count, hqu.slot⟩, (fun J j e => ⟨.inl (hu.j1 J j e).1, (hu.j1 J j e).2⟩), hu.j2, hu.ne⟩, .inr ⟨g', hne, hrw', by omega, .inr rfl, by omega, by show g' ≠ g.R ∧ g' ≠ g.bl ∧ g' ≠ g.bw; omega⟩, hb2.mono hbs, fun N y l2 _ _ hy => hy.below hb2⟩⟩
  · obtain ⟨o0, s0, hGs, hc0⟩ := rw_str0 h1 h0
    obtain ⟨v', w', g', hrun, hrw, hg', ho⟩ := rw_append (T := 30) (tx := 30) Tryz.underlying30 hi hz0 hz1 hz2 rfl (h1.below hbel) (tcs_one1 ls) _ 1 _ src (by omega) (by omega)
    obtain ⟨a', c', rfl⟩ := hrw.form
    rw [htc] at hrw
    have hrw' : IsRw 9 1 w' g' (.slice a' (ls.length + 1) c') (ls ++ [b]).length (tcs (ls ++ [b])) := by rw [List.length_append]; exact hrw
    obtain ⟨o, s, hlt', _⟩ := rw_str0 hrw' hne
    have hnj := hj.noStr hc0
    have hnq := hq.noStr hc0
    simp only [List.mem_cons, List.not_mem_nil, or_false, not_or] at hnj
    have hw := hS.wrote ho h3 h4 hnj.1 hnq h5 (P := fun k => k = g' ∧ w.heap.size < k) (fun k hk => by obtain ⟨rfl, hk⟩ := hk; omega)
    refine ⟨a', c', w', hrun, Lib.hid ⟨_, hw, .inr ⟨g', hne, hrw', ?_, ?_, ?_, ?_⟩, (hbel.mono hbs).trans (ho.toBelow (by simpa using h2) (by omega)), fun N y l2 hv hy hts => ?_⟩⟩
    · rcases hg' with rfl | rfl <;> omega
    · rcases hg' with rfl | rfl
      · exact .inl h3
      · exact .inr ⟨rfl, by omega⟩
    · rcases hg' with rfl | rfl
      · exact h4
      · omega
    · show g' ≠ g.R ∧ g' ≠ g.bl ∧ g' ≠ g.bw
      rcases hg' with rfl | rfl
      · exact h5
      · omega
    · have hGN : G < N := by
        have hl : 0 < ls.length := List.length_pos_iff.2 h0
        obtain ⟨off, cap, e, _⟩ := h1.cell hl
        exact hv _ _ _ e
      have hts1 := hts.below hbel
      obtain ⟨a, cap, e1, e2, e4⟩ := hts1
      refine ⟨a, cap, e1, e2, ?_⟩
      rcases e4 with e4 | ⟨b2, off2, e5, e6, e7⟩
      · exact .inl e4
      · subst e5
        have := hy _ _ _ e1
        have hbN : N ≤ b2 := this
        exact .inr ⟨b2, off2, rfl, Nat.lt_of_lt_of_le e6 ho.size, fun i hi => (ho.cell (p := ⟨b2, off2 + i, none⟩) e6 (by simp; omega)).trans (e7 i hi)⟩
theorem ToldP.low (h : ToldP base w g B bl bm v ls) : ∀ a n c, v = .slice (some a) n c → a.block < w.heap.size := by
  intro a n c e
  rcases h with ⟨rfl, rfl⟩ | ⟨G, h0, h1, _⟩
  · cases e
  · obtain ⟨off, cap, e2, _, h3, _⟩ := h1.cell (List.length_pos_iff.2 h0)
    rw [e2] at e
    cases e
    exact h3
/-- Append of both. -/
theorem append3 (h : Syn base w B bl bm g t d d (some (J, j)) (some (Q, j, sl))) (ht : ToldP base w g B bl bm v ls) (b : List UInt8) (hb : b.length ≤ 262144) (hc : j.count ≤ j.used) (hg : j.gen < 4294967296) (h6 : t + 20010 < 1000000) :
    Calls Tryz.prog 27 #[.pointer (some ⟨J, 0, none⟩), .string (Mt.str b)] w fun e w' => e = .returned (.int .i64 (Mt.appendJ d j b).2.2) ∧ Hid (Below base w w' ∧ Calls Tryz.prog 28 #[.pointer (some ⟨Q, 0, none⟩), .string (Mt.str b)] w' fun e w'' => e = .returned (.int .i64 (Mt.appendJ d j b).2.2) ∧ Hid (Syn base w'' B bl bm g (t + 20010) (Mt.appendJ d j b).1 (Mt.appendJ d j b).1 (some (J, (Mt.appendJ d j b).2.1)) (some (Q, (Mt.appendJ d j b).2.1, sl)) ∧ ToldP base w'' g B bl bm v ls ∧ Below base w w'')) := by
  refine (append1f h b hg hc (by omega)).mono ?_
  rintro e w' ⟨rfl, h2⟩
  obtain ⟨s1, b1, o1⟩ := h2.out
  have t1 := ht.jn1 (d := d) (j := j) h.one o1
  refine ⟨rfl, Lib.hid ⟨b1, (append2f s1 b hb hc hg h6).mono ?_⟩⟩
  rintro e w'' ⟨rfl, h3⟩
  obtain ⟨s2, b2, o2⟩ := h3.out
  exact ⟨rfl, Lib.hid ⟨s2, t1.jn2 s1.two o2, b1.trans b2⟩⟩
/-- Power is on again, of both. -/
theorem on3 (h : Syn base w B bl bm g t d d o1 o2) (ht : ToldP base w g B bl bm v ls) :
    Calls Tryz.prog 30 #[.pointer (some ⟨B, 0, none⟩)] w fun e w' => e = .returned (.tuple #[]) ∧ Hid (Below base w w' ∧ IsDisk w' B bl bm d.on ∧ ToldP base w' g B bl bm v ls ∧ Calls Tryz.prog 31 #[.pointer (some ⟨g.R, 0, none⟩)] w' fun e w'' => e = .returned (.tuple #[]) ∧ Hid (Syn base w'' B bl bm g t d.on d.on o1 o2 ∧ ToldP base w'' g B bl bm v ls ∧ Below base w w'')) := by
  refine (on_any h.one.isD).mono ?_
  rintro e w' ⟨rfl, p, q⟩
  obtain ⟨s1, b1⟩ := h.disk1 p q rfl
  have t1 := ht.disk1 q
  refine ⟨rfl, Lib.hid ⟨b1, p, t1, ?_⟩⟩
  refine (eon_any s1.two.isR).mono ?_
  rintro e w'' ⟨rfl, p2, q2⟩
  obtain ⟨s2, b2⟩ := s1.disk2 p2 q2 rfl
  exact ⟨rfl, Lib.hid ⟨s2, t1.disk2 q2, b1.trans b2⟩⟩
/-- A cut of both. -/
theorem cut4 (h : Syn base w B bl bm g t d d o1 o2) (ht : ToldP base w g B bl bm v ls) (n : Int) (hn : n ≤ 9223372036854775807) (k : Nat) (a b : Int) (hk : k < 18446744073709551616) (ha : -9223372036854775808 ≤ a ∧ a ≤ 9223372036854775807) (hb : -9223372036854775808 ≤ b ∧ b ≤ 9223372036854775807) :
    Calls Tryz.prog 22 #[.pointer (some ⟨B, 0, none⟩), .int .i64 n, .agg #[.int .u64 (k : Int), .int .i64 a, .int .i64 b]] w fun e w' => e = .returned (.tuple #[]) ∧ Hid (Below base w w' ∧ Calls Tryz.prog 23 #[.pointer (some ⟨g.R, 0, none⟩), .int .i64 n, .agg #[.int .u64 (k : Int), .int .i64 a, .int .i64 b]] w' fun e w'' => e = .returned (.tuple #[]) ∧ Hid (Syn base w'' B bl bm g t (d.cutAt n.toNat k a b) (d.cutAt n.toNat k a b) o1 o2 ∧ ToldP base w'' g B bl bm v ls ∧ Below base w w'')) := by
  refine (cut3 h n hn k a b hk ha hb).mono ?_
  rintro e w' ⟨rfl, h2⟩
  obtain ⟨b1, ho1, hc⟩ := h2.out
  have t1 := ht.disk1 ho1
  refine ⟨rfl, Lib.hid ⟨b1, hc.mono ?_⟩⟩
  rintro e w'' ⟨rfl, h3⟩
  exact ⟨rfl, Lib.hid ⟨h3.out.1, t1.disk2 h3.out.2.2, h3.out.2.1⟩⟩
/-- The program's Open: what it answers is new. -/
theorem open1n (h : Syn base w B bl bm g t d d o1 o2) : Calls Tryz.prog 11 #[.pointer (some ⟨B, 0, none⟩)] w fun e w' => ∃ (x : Value) (J : Nat) (P : Nat → Prop), e = .returned (.tuple #[.pointer ((Mt.opJ d).map fun _ => ⟨J, 0, none⟩), x, .int .i64 (Mt.opE d)]) ∧
    Hid (Syn base w' B bl bm (g.plus P) t (Mt.opD d) d ((Mt.opJ d).map fun j => (J, j)) none ∧ Below base w w' ∧ TsK w' (g.plus P) x (Mt.opL d) ∧ OnlyS [B, bl, bm] w w' ∧ ∀ a n c, x = .slice (some a) n c → w.heap.size ≤ a.block) := by
  have hD := h.one.isD
  by_cases h4 : d.lasts.length < 4
  · obtain ⟨e1, e2, e3, e4⟩ := Mt.op_small h4
    rw [e1, e2, e3, e4]
    refine (open_small hD h4).mono ?_
    rintro e w' ⟨rfl, rfl⟩
    obtain ⟨hs, hb⟩ := h.closed1' (OnlyS.refl _ _) hD
    exact ⟨_, 0, fun _ => False, rfl, Lib.hid ⟨hs, hb, TsK.nil _ _, OnlyS.refl _ _, fun a n c e => nomatch e⟩⟩
  · by_cases ho : d.off = true
    · obtain ⟨e1, e2, e3, e4⟩ := Mt.op_off h4 ho
      rw [e1, e2, e3, e4]
      refine (open_off hD (by omega) ho).mono ?_
      rintro e w' ⟨rfl, hb0⟩
      have ho1 : OnlyS [B, bl, bm] w w' := Below.onlyS hb0 (Nat.le_refl _)
      obtain ⟨hs, hb⟩ := h.closed1' ho1 (hD.below hb0)
      exact ⟨_, 0, fun _ => False, rfl, Lib.hid ⟨hs, hb, TsK.nil _ _, ho1, fun a n c e => nomatch e⟩⟩
    · refine (open_new hD (by omega) (by simpa using ho)).mono ?_
      rintro e w' ⟨hgood, hbad, hon⟩
      by_cases he : (Mt.openJ d).2.2 = 0
      · obtain ⟨e1, e2, e3, e4⟩ := Mt.op_good h4 ho he
        rw [e1, e2, e3, e4]
        obtain ⟨J, x, j', hJ, rfl, hts, hjd, hl⟩ := hgood he
        have hl' : j' = (Mt.openJ d).2.1 := hl
        subst hl'
        obtain ⟨a, c, rfl, hc, hrest⟩ := hts.1
        have hJu := hjd.lt.1
        have hlt := h.apart.lt
        have hsz := h.two.isR.size
        refine ⟨_, J, fun k => k = J ∨ (k < w'.heap.size ∧ w.heap.size ≤ k ∧ ∃ a', a = some a' ∧ a'.block = k), rfl, Lib.hid ?_⟩
        obtain ⟨hs, hb⟩ := h.opened1 hon hjd hJ (by omega) (P := fun k => k = J ∨ (k < w'.heap.size ∧ w.heap.size ≤ k ∧ ∃ a', a = some a' ∧ a'.block = k)) (fun k hk => by rcases hk with rfl | ⟨h1, h2, _⟩ <;> omega) (.inl rfl)
        refine ⟨hs, hb, ⟨hts.1, fun hne a' n c' e => ?_⟩, hon, hts.2⟩
        cases e
        have h1 := hts.2 _ _ _ rfl
        have h2 : a'.block < w'.heap.size := by
          rcases hrest with h3 | ⟨b, off, e, h3, _⟩
          · exact absurd h3 hne
          · cases e; exact h3
        obtain ⟨lim, most, tv, tn, tcs, hd, _⟩ := h.two.isR
        obtain ⟨k1, k2, _⟩ := hd.apart (by omega)
        have k3 := hd.ltR
        have k4 := hd.size
        exact ⟨.inr (Or.inr (Or.inr ⟨h2, h1, a', rfl, rfl⟩)), by show a'.block ≠ g.R; omega, by show a'.block ≠ g.bl; omega, by show a'.block ≠ g.bw; omega⟩
      · obtain ⟨e1, e2, e3, e4⟩ := Mt.op_bad h4 ho he
        rw [e1, e2, e3, e4]
        obtain ⟨rfl, hd'⟩ := hbad he
        obtain ⟨hs, hb⟩ := h.closed1' hon hd'
        exact ⟨_, 0, fun _ => False, rfl, Lib.hid ⟨hs, hb, TsK.nil _ _, hon, fun a n c e => nomatch e⟩⟩
/-- Open of both. -/
theorem open3 (h : Syn base w B bl bm g t d d o1 o2) (ht : ToldP base w g B bl bm v ls) (h6 : t + 20010 < 1000000) (hsm : d.lasts.length ≤ 1000) :
    Calls Tryz.prog 11 #[.pointer (some ⟨B, 0, none⟩)] w fun e w' => ∃ (x : Value) (J : Nat), e = .returned (.tuple #[.pointer ((Mt.opJ d).map fun _ => ⟨J, 0, none⟩), x, .int .i64 (Mt.opE d)]) ∧
      Hid (Below base w w' ∧ IsTs w' x (Mt.opL d) ∧ (∀ a n c, x = .slice (some a) n c → w.heap.size ≤ a.block) ∧ Calls Tryz.prog 12 #[.pointer (some ⟨g.R, 0, none⟩)] w' fun e w'' => ∃ (y : Value) (Q : Nat) (sl : Int) (g' : Rg), e = .returned (.tuple #[.pointer ((Mt.opJ d).map fun _ => ⟨Q, 0, none⟩), y, .int .i64 (Mt.opE d)]) ∧
        Hid (g'.R = g.R ∧ Syn base w'' B bl bm g' (t + 20010) (Mt.opD d) (Mt.opD d) ((Mt.opJ d).map fun j => (J, j)) ((Mt.opJ d).map fun j => (Q, j, sl)) ∧ ToldP base w'' g' B bl bm v ls ∧ IsTs w'' x (Mt.opL d) ∧ Below base w w'')) := by
  refine (open1n h).mono ?_
  rintro e w' ⟨x, J, P, rfl, h1⟩
  obtain ⟨s1, b1, k1, ho, hnew⟩ := h1.out
  have t1 := (ht.disk1 ho).plus P
  refine ⟨x, J, rfl, Lib.hid ⟨b1, k1.1, hnew, ?_⟩⟩
  refine (open2f s1 h6 hsm).mono ?_
  rintro e w'' ⟨y, Q, P2, sl, rfl, h2⟩
  obtain ⟨s2, b2, k2, k3, k4⟩ := h2.out
  exact ⟨y, Q, sl, (g.plus P).plus P2, rfl, Lib.hid ⟨rfl, s2, (t1.disk2 k4).plus P2, k3 _ _ k1, b1.trans b2⟩⟩
/-- The program's Open alone. -/
theorem open4 (hD : IsDisk w B bl bm d) (ht : ToldP base w g B bl bm v ls) (hbB : base ≤ B ∧ base ≤ bl ∧ base ≤ bm) (hbs : base ≤ w.heap.size) (h4 : 4 ≤ d.lasts.length) (hoff : d.off = false) (he : Mt.opE d = 0) :
    Calls Tryz.prog 11 #[.pointer (some ⟨B, 0, none⟩)] w fun e w' => ∃ (x : Value) (J : Nat), e = .returned (.tuple #[.pointer (some ⟨J, 0, none⟩), x, .int .i64 0]) ∧ IsTs w' x (Mt.opL d) ∧ IsTs w' v ls ∧ Below base w w' := by
  have he' : (Mt.openJ d).2.2 = 0 := by
    rw [← he]; unfold Mt.opE; rw [if_neg (by omega), if_neg (by rw [hoff]; decide)]
  obtain ⟨_, _, e3, _⟩ := Mt.op_good (d := d) (by omega) (by rw [hoff]; decide) he'
  refine (open_new hD h4 hoff).mono ?_
  rintro e w' ⟨hgood, -, hon⟩
  obtain ⟨J, x, j', hJ, rfl, hts, hjd, hl⟩ := hgood he'
  exact ⟨x, J, rfl, by rw [e3]; exact hts.1, (ht.disk1 hon).ts, hon.toBelow (by
    intro k hk
    simp only [List.mem_cons, List.not_mem_nil, or_false] at hk
    rcases hk with rfl | rfl | rfl <;> omega) hbs⟩
end
end Go.Proofs.YtnioagojiipjlaaGreat
