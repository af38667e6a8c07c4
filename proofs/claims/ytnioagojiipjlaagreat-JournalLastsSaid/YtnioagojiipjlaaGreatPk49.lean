/-
  Some texts of one proof, one behind the other.
-/
import Derived.Test.YtnioagojiipjlaaGreatPk26
import Derived.Test.YtnioagojiipjlaaGreatPk48
set_option linter.unusedVariables false
set_option linter.unusedSimpArgs false

/-
  Reset, Append and the disks' calls, side by side.
-/
namespace Go.Proofs.YtnioagojiipjlaaGreat
open Go.RowKit Go.Maps
section
variable {base : Nat} {w u x : World} {B bl bm J Q : Nat} {g : Rg} {t t' : Nat} {d d' d1 d2 : Mt.Dk} {j j1 : Mt.Jn} {sl : Int} {o1 : Option (Nat × Mt.Jn)} {o2 : Option (Nat × Mt.Jn × Int)}
/-- A row of the call's own is kept from now on. -/
theorem Syn.keepRow (h : Syn base w B bl bm g t d1 d2 o1 (some (Q, j, sl))) (hb : Below w.heap.size w u) {v : Value} {ls : List (List UInt8)} (ho : IsOwn 9 1 w.heap.size u v ls.length (tcs ls)) :
    ∃ P : Nat → Prop, Syn base u B bl bm (g.plus P) t d1 d2 o1 (some (Q, j, sl)) ∧ TsP u (g.plus P) Q v ls ∧ ∀ x S, OnlyS S u x → (∀ k ∈ S, k < w.heap.size) → TsP x (g.plus P) Q v ls := by
  have hq : QD w Q g t j sl d2 := h.two
  have hs := h.below hb
  obtain ⟨l1, l2, l3, l4, l5⟩ := hq.lts
  obtain ⟨gg, hg, hr⟩ := ho
  have hmore : ∀ P : Nat → Prop, (∀ k, P k → w.heap.size ≤ k ∧ k < u.heap.size) → Syn base u B bl bm (g.plus P) t d1 d2 o1 (some (Q, j, sl)) := fun P hP => by
    have hR : IsR u (g.plus P) t d2 := hq.dk.apartPlus (S := []) (Below.onlyS hb (Nat.le_refl _)) (fun k hk => by cases hk) hP
    have hu : QD u Q g t j sl d2 := hs.two
    exact ⟨hs.apart.plus P, hs.one, ⟨hu.jn, hR, .inl hu.kept, hu.ne, hu.four, hu.half, hu.head, hu.gen, hu.used, hu.count, hu.slot⟩, (fun J j e => ⟨.inl (hs.j1 J j e).1, (hs.j1 J j e).2⟩), hs.j2, hs.ne⟩
  rcases Nat.eq_zero_or_pos ls.length with h0 | h0
  · obtain ⟨a, c, e⟩ := hr.form
    have hn : ls = [] := List.eq_nil_of_length_eq_zero h0
    exact ⟨fun _ => False, hmore _ (fun k hk => hk.elim), ⟨a, c, e, .inl hn⟩, fun x S _ _ => ⟨a, c, e, .inl hn⟩⟩
  · obtain ⟨off, cap, e, h2, h3, h4⟩ := hr.cell h0
    have hcell : ∀ x, x.heap[gg]? = u.heap[gg]? → u.heap.size ≤ x.heap.size → TsP x (g.plus fun k => k = gg) Q v ls := fun x hx hsz =>
      ⟨_, _, e, .inr ⟨gg, off, rfl, Nat.lt_of_lt_of_le h3 hsz, .inr (.inr rfl), by show gg ≠ g.R; omega, by show gg ≠ g.bl; omega, by show gg ≠ g.bw; omega, by omega, fun j hj => by
        rw [cell_block hx, h4 j (by rw [tcs_length]; exact hj)]
        simp [tcs]⟩⟩
    refine ⟨fun k => k = gg, hmore _ (fun k hk => by subst hk; exact ⟨hg, h3⟩), hcell u rfl (Nat.le_refl _), fun x S hx hS => hcell x (hx.block gg h3 (fun hm => ?_)) hx.size⟩
    have := hS gg hm
    omega
/-- The program's Reset. -/
theorem reset1 (h : Syn base w B bl bm g t d d2 (some (J, j)) o2) {v : Value} {bs : List (List UInt8)} (hv : IsTs w v bs) (hn : bs.length ≤ 8796093022208) : Calls Tryz.prog 18 #[.pointer (some ⟨J, 0, none⟩), v] w fun e w' => e = .returned (.int .i64 (Mt.resetJ d j bs).2.2) ∧
    Hid (Syn base w' B bl bm g t (Mt.resetJ d j bs).1 d2 (some (J, (Mt.resetJ d j bs).2.1)) o2 ∧ Below base w w' ∧ OnlyS [J, B, bl, bm] w w') := by
  have hj : JD w J B bl bm j d := h.one
  refine (reset_any6 hj hv hn).mono ?_
  rintro e w' ⟨rfl, ⟨j', hj', hl⟩, ho⟩
  have hl' : j' = (Mt.resetJ d j bs).2.1 := hl
  subst hl'
  obtain ⟨hs, hb⟩ := h.first (o1' := some (J, (Mt.resetJ d j bs).2.1)) ho hj' rfl
  exact ⟨rfl, Lib.hid ⟨hs, hb, ho⟩⟩
/-- The document's Reset. -/
theorem reset2 (h : Syn base w B bl bm g t d1 d o1 (some (Q, j, sl))) {v : Value} {bs : List (List UInt8)} (hv : TsP w g Q v bs) (hn : bs.length ≤ 1000) (hb : ∀ b ∈ bs, b.length ≤ 262144) (hne : Mt.needs bs ≤ 10000) (ht : t + 20010 < 1000000) : Calls Tryz.prog 19 #[.pointer (some ⟨Q, 0, none⟩), v] w fun e w' => e = .returned (.int .i64 (Mt.resetJ d j bs).2.2) ∧
    Hid (∃ sl', Syn base w' B bl bm g (t + 20010) d1 (Mt.resetJ d j bs).1 o1 (some (Q, (Mt.resetJ d j bs).2.1, sl')) ∧ Below base w w') := by
  have hq : QD w Q g t j sl d := h.two
  refine (rreset_any hq hv hn hb hne ht).mono ?_
  rintro e w' ⟨rfl, ⟨sl', hq', _⟩, hf⟩
  obtain ⟨hs, hb⟩ := h.second (o2' := some (Q, (Mt.resetJ d j bs).2.1, sl')) hf hq' rfl
  exact ⟨rfl, Lib.hid ⟨sl', hs, hb⟩⟩
/-- The program's Append. -/
theorem append1f (h : Syn base w B bl bm g t d d2 (some (J, j)) o2) (b : List UInt8) (hg : j.gen < 4294967296) (hc : j.count ≤ j.used) (hb : b.length ≤ 140737488355328) : Calls Tryz.prog 27 #[.pointer (some ⟨J, 0, none⟩), .string (Mt.str b)] w fun e w' => e = .returned (.int .i64 (Mt.appendJ d j b).2.2) ∧
    Hid (Syn base w' B bl bm g t (Mt.appendJ d j b).1 d2 (some (J, (Mt.appendJ d j b).2.1)) o2 ∧ Below base w w' ∧ OnlyS [J, B, bl, bm] w w') := by
  have hj : JD w J B bl bm j d := h.one
  refine (append_any6 hj b hg hc hb).mono ?_
  rintro e w' ⟨rfl, hj', ho⟩
  obtain ⟨hs, hb⟩ := h.first (o1' := some (J, (Mt.appendJ d j b).2.1)) ho hj' rfl
  exact ⟨rfl, Lib.hid ⟨hs, hb, ho⟩⟩
theorem append1 (h : Syn base w B bl bm g t d d2 (some (J, j)) o2) (b : List UInt8) (hg : j.gen < 4294967296) (hc : j.count ≤ j.used) (hb : b.length ≤ 140737488355328) : Calls Tryz.prog 27 #[.pointer (some ⟨J, 0, none⟩), .string (Mt.str b)] w fun e w' => e = .returned (.int .i64 (Mt.appendJ d j b).2.2) ∧
    Hid (Syn base w' B bl bm g t (Mt.appendJ d j b).1 d2 (some (J, (Mt.appendJ d j b).2.1)) o2 ∧ Below base w w') :=
  (append1f h b hg hc hb).mono fun _ _ ⟨h1, h2⟩ => ⟨h1, Lib.hid ⟨h2.out.1, h2.out.2.1⟩⟩
/-- The document's Append. -/
theorem append2f (h : Syn base w B bl bm g t d1 d o1 (some (Q, j, sl))) (b : List UInt8) (hb : b.length ≤ 262144) (hc : j.count ≤ j.used) (hg : j.gen < 4294967296) (ht : t + 20010 < 1000000) : Calls Tryz.prog 28 #[.pointer (some ⟨Q, 0, none⟩), .string (Mt.str b)] w fun e w' => e = .returned (.int .i64 (Mt.appendJ d j b).2.2) ∧
    Hid (Syn base w' B bl bm g (t + 20010) d1 (Mt.appendJ d j b).1 o1 (some (Q, (Mt.appendJ d j b).2.1, sl)) ∧ Below base w w' ∧ FrQ g Q w w') := by
  have hq : QD w Q g t j sl d := h.two
  refine (rappend_any hq b hb hc hg ht).mono ?_
  rintro e w' ⟨rfl, hq', hf⟩
  obtain ⟨hs, hb⟩ := h.second (o2' := some (Q, (Mt.appendJ d j b).2.1, sl)) hf hq' rfl
  exact ⟨rfl, Lib.hid ⟨hs, hb, hf⟩⟩
theorem append2 (h : Syn base w B bl bm g t d1 d o1 (some (Q, j, sl))) (b : List UInt8) (hb : b.length ≤ 262144) (hc : j.count ≤ j.used) (hg : j.gen < 4294967296) (ht : t + 20010 < 1000000) : Calls Tryz.prog 28 #[.pointer (some ⟨Q, 0, none⟩), .string (Mt.str b)] w fun e w' => e = .returned (.int .i64 (Mt.appendJ d j b).2.2) ∧
    Hid (Syn base w' B bl bm g (t + 20010) d1 (Mt.appendJ d j b).1 o1 (some (Q, (Mt.appendJ d j b).2.1, sl)) ∧ Below base w w') :=
  (append2f h b hb hc hg ht).mono fun _ _ ⟨h1, h2⟩ => ⟨h1, Lib.hid ⟨h2.out.1, h2.out.2.1⟩⟩
/-- Behind a call of the program's disk alone. -/
theorem Syn.disk1 (h : Syn base w B bl bm g t d d2 o1 o2) (hd : IsDisk u B bl bm d') (ho : OnlyS [B, bl, bm] w u) (hl : d'.lasts.length = d.lasts.length) : Syn base u B bl bm g t d' d2 o1 o2 ∧ Below base w u := by
  refine h.first (o1' := o1) (ho.mono fun k hk => ?_) ?_ rfl
  · cases o1 with
    | none => exact hk
    | some p => obtain ⟨J, j⟩ := p; exact List.mem_cons_of_mem _ hk
  · cases o1 with
    | none => exact hd
    | some p => obtain ⟨J, j⟩ := p; exact JD.disk h.one hd ho hl
/-- Behind a call of the document's disk alone. -/
theorem Syn.disk2 (h : Syn base w B bl bm g t d1 d o1 o2) (hd : IsR u g t' d') (hf : Fr g w u) (hl : d'.lasts.length = d.lasts.length) : Syn base u B bl bm g t' d1 d' o1 o2 ∧ Below base w u := by
  refine h.second (o2' := o2) (hf.toO o2) ?_ rfl
  cases o2 with
  | none => exact hd
  | some p => obtain ⟨Q, j, sl⟩ := p; exact QD.disk h.two hd hf hl
end
end Go.Proofs.YtnioagojiipjlaaGreat

/-
  Plain facts: what journals and disks keep through all calls.
-/
namespace Go.Proofs.YtnioagojiipjlaaGreat
open Go.RowKit
namespace Mt
/-- A disk that is in form, and without power waits for nothing. -/
structure Calm2 (d : Dk) : Prop where
  ok : d.Ok
  calm : Calm d
theorem Calm2.write {d : Dk} (h : Calm2 d) (i : Int) (s : List UInt8) : Calm2 (d.write i s).1 := ⟨h.ok.write i s, calm_write h.calm i s⟩
theorem Calm2.flush {d : Dk} (h : Calm2 d) : Calm2 d.flush.1 := ⟨h.ok.flush, calm_flush h.calm h.ok⟩
theorem Calm2.wrS : ∀ (l : List (List UInt8)) {d : Dk} (_ : Calm2 d) (a : Nat), Calm2 (wrS d a l).1
  | [], _, h, _ => h
  | s :: r, d, h, a => by
    rw [Mt.wrS]
    split
    · exact Calm2.wrS r (h.write _ _) _
    · exact h.write _ _
theorem Calm2.wrF {d : Dk} (h : Calm2 d) (a : Nat) (l : List (List UInt8)) : Calm2 (wrF d a l).1 := by
  unfold Mt.wrF
  split
  · exact (Calm2.wrS l h a).flush
  · exact Calm2.wrS l h a
theorem wrF_len {d : Dk} (h : d.Ok) (a : Nat) (l : List (List UInt8)) : (wrF d a l).1.lasts.length = d.lasts.length := by
  unfold wrF
  split
  · have hk : ∀ (l : List (List UInt8)) (d : Dk) (_ : d.Ok) (a : Nat), (wrS d a l).1.Ok := by
      intro l
      induction l with
      | nil => exact fun d h a => h
      | cons s r ih =>
        intro d h a
        rw [wrS]
        split
        · exact ih _ (h.write _ _) _
        · exact h.write _ _
    rw [flush_len _ (hk l d h a), wrS_len]
  · exact wrS_len _ _ _
/-- A journal's numbers. -/
structure Fit (d : Dk) (o : Option Jn) : Prop where
  c : Calm2 d
  jn : ∀ j, o = some j → 4 ≤ d.lasts.length ∧ j.count ≤ j.used ∧ j.gen < 4294967296
theorem layJ_ways (d : Dk) (j : Jn) (bs : List (List UInt8)) : layJ d j bs = (d, j, 11) ∨ (j.gen + 1 ≤ 4294967295 ∧ (layJ d j bs = ((lay1 d j bs).1, { j with closed := true }, (lay1 d j bs).2) ∨ layJ d j bs = ((lay2 d j bs).1, { j with closed := true }, (lay2 d j bs).2) ∨ layJ d j bs = ((lay2 d j bs).1, ⟨j.gen + 1, 1 - j.half, 1 - j.head, bs.length, needs bs, false⟩, 0))) := by
  by_cases h : j.gen + 1 ≤ 4294967295 ∧ 2 ≤ d.room ∧ needs bs ≤ min (2 + (1 - j.half) * hsize d.lasts.length + hsize d.lasts.length) d.room - (2 + (1 - j.half) * hsize d.lasts.length) - 0
  · have hy := layJ_yes d j bs h.1 h.2.1 h.2.2
    refine .inr ⟨h.1, ?_⟩
    by_cases h1 : (lay1 d j bs).2 = 0
    · by_cases h2 : (lay2 d j bs).2 = 0
      · exact .inr (.inr (lay_good hy h1 h2))
      · exact .inr (.inl (lay_bad2 hy h1 h2))
    · exact .inl (lay_bad1 hy h1)
  · exact .inl (layJ_no d j bs h)
theorem lay1_calm {d : Dk} (h : Calm2 d) (j : Jn) (bs : List (List UInt8)) : Calm2 (lay1 d j bs).1 ∧ (lay1 d j bs).1.lasts.length = d.lasts.length := ⟨h.wrF _ _, wrF_len h.ok _ _⟩
theorem lay2_calm {d : Dk} (h : Calm2 d) (j : Jn) (bs : List (List UInt8)) : Calm2 (lay2 d j bs).1 ∧ (lay2 d j bs).1.lasts.length = d.lasts.length := by
  obtain ⟨h1, h2⟩ := lay1_calm h j bs
  exact ⟨h1.wrF _ _, (wrF_len h1.ok _ _).trans h2⟩
theorem layJ_fit {d : Dk} (h : Calm2 d) (j : Jn) (bs : List (List UInt8)) : Calm2 (layJ d j bs).1 ∧ (layJ d j bs).1.lasts.length = d.lasts.length ∧ (j.count ≤ j.used → j.gen < 4294967296 → (layJ d j bs).2.1.count ≤ (layJ d j bs).2.1.used ∧ (layJ d j bs).2.1.gen < 4294967296) := by
  have h1 := lay1_calm h j bs
  have h2 := lay2_calm h j bs
  rcases layJ_ways d j bs with e | ⟨hg, e | e | e⟩
  · rw [e]; exact ⟨h, rfl, fun a b => ⟨a, b⟩⟩
  · rw [e]; exact ⟨h1.1, h1.2, fun a b => ⟨a, b⟩⟩
  · rw [e]; exact ⟨h2.1, h2.2, fun a b => ⟨a, b⟩⟩
  · rw [e]; exact ⟨h2.1, h2.2, fun _ _ => ⟨needs_len bs, Nat.lt_of_le_of_lt hg (by decide)⟩⟩
theorem Fit.reset {d : Dk} {j : Jn} (h : Fit d (some j)) (bs : List (List UInt8)) : Fit (resetJ d j bs).1 (some (resetJ d j bs).2.1) ∧ (resetJ d j bs).1.lasts.length = d.lasts.length := by
  obtain ⟨a, b, c⟩ := h.jn j rfl
  unfold resetJ
  split
  · obtain ⟨h1, h2, h3⟩ := layJ_fit h.c j bs
    obtain ⟨h4, h5⟩ := h3 b c
    exact ⟨⟨h1, fun j' e => by cases e; exact ⟨by rw [h2]; exact a, h4, h5⟩⟩, h2⟩
  · exact ⟨h, rfl⟩
theorem Fit.append {d : Dk} {j : Jn} (h : Fit d (some j)) (b : List UInt8) : Fit (appendJ d j b).1 (some (appendJ d j b).2.1) ∧ (appendJ d j b).1.lasts.length = d.lasts.length := by
  obtain ⟨a, b0, c⟩ := h.jn j rfl
  by_cases ha : askJ j [b] = 0
  · by_cases hl : cellsN b.length ≤ j.left d
    · have h1 : Calm2 (app1 d j b).1 ∧ (app1 d j b).1.lasts.length = d.lasts.length := ⟨h.c.wrF _ _, wrF_len h.c.ok _ _⟩
      by_cases he : (app1 d j b).2 = 0
      · rw [append_good ha hl he]
        have h2 : 1 ≤ cellsN b.length := by unfold cellsN; omega
        have hcu : j.count + 1 ≤ j.used + cellsN b.length := by omega
        exact ⟨⟨h1.1, fun j' e => by cases e; exact ⟨by rw [h1.2]; exact a, hcu, c⟩⟩, h1.2⟩
      · rw [append_bad ha hl he]
        exact ⟨⟨h1.1, fun j' e => by cases e; exact ⟨by rw [h1.2]; exact a, b0, c⟩⟩, h1.2⟩
    · have e : appendJ d j b = (d, j, 11) := by unfold appendJ; rw [if_pos ha, if_neg hl]
      rw [e]; exact ⟨h, rfl⟩
  · have e : appendJ d j b = (d, j, askJ j [b]) := by unfold appendJ; rw [if_neg ha]
    rw [e]; exact ⟨h, rfl⟩
theorem Fit.open {d : Dk} (h : Calm2 d) : Fit (opD d) (opJ d) ∧ (opD d).lasts.length = d.lasts.length := by
  by_cases h4 : d.lasts.length < 4
  · obtain ⟨_, e2, _, e4⟩ := op_small h4
    rw [e2, e4]; exact ⟨⟨h, fun j e => by cases e⟩, rfl⟩
  · by_cases ho : d.off = true
    · obtain ⟨_, e2, _, e4⟩ := op_off h4 ho
      rw [e2, e4]; exact ⟨⟨h, fun j e => by cases e⟩, rfl⟩
    · obtain ⟨h1, h2, h3⟩ := layJ_fit h (findJ d).1 (findJ d).2
      have hf := findJ_ok d
      obtain ⟨h5, h6⟩ := h3 (by rw [hf.2.2.2.1, hf.2.2.2.2]; exact Nat.le_refl _) hf.2.2.1
      by_cases he : (openJ d).2.2 = 0
      · obtain ⟨_, e2, _, e4⟩ := op_good h4 ho he
        rw [e2, e4]
        exact ⟨⟨h1, fun j e => by cases e; exact ⟨by show 4 ≤ (layJ d (findJ d).1 (findJ d).2).1.lasts.length; rw [h2]; omega, h5, h6⟩⟩, h2⟩
      · obtain ⟨_, e2, _, e4⟩ := op_bad h4 ho he
        rw [e2, e4]
        exact ⟨⟨h1, fun j e => by cases e⟩, h2⟩
theorem Fit.disk {d d' : Dk} {o : Option Jn} (h : Fit d o) (hc : Calm2 d') (hl : d'.lasts.length = d.lasts.length) : Fit d' o := ⟨hc, fun j e => by rw [hl]; exact h.jn j e⟩
end Mt
end Go.Proofs.YtnioagojiipjlaaGreat

/-
  Power and the disks' own calls, on either side.
-/
namespace Go.Proofs.YtnioagojiipjlaaGreat
open Go.RowKit Go.Maps
section
variable {base : Nat} {w u : World} {B bl bm : Nat} {g : Rg} {t : Nat} {d d1 d2 : Mt.Dk} {o1 : Option (Nat × Mt.Jn)} {o2 : Option (Nat × Mt.Jn × Int)}
theorem Mt.crash_len' (d : Mt.Dk) (k : Nat) (a b : Int) : (d.crash k a b).lasts.length = d.lasts.length := Mt.loseK_length ..
theorem limit1 (h : Syn base w B bl bm g t d d2 o1 o2) (n : Int) : Calls Tryz.prog 24 #[.pointer (some ⟨B, 0, none⟩), .int .i64 n] w fun e w' => e = .returned (.tuple #[]) ∧ Syn base w' B bl bm g t (d.limit n) d2 o1 o2 ∧ Below base w w' ∧ OnlyS [B, bl, bm] w w' := by
  refine (limit_any h.one.isD n).mono ?_
  rintro e w' ⟨rfl, a, b⟩
  obtain ⟨s1, s2⟩ := h.disk1 a b rfl
  exact ⟨rfl, s1, s2, b⟩
theorem limit2 (h : Syn base w B bl bm g t d1 d o1 o2) (n : Int) (hn : n ≤ 9223372036854775807) : Calls Tryz.prog 25 #[.pointer (some ⟨g.R, 0, none⟩), .int .i64 n] w fun e w' => e = .returned (.tuple #[]) ∧ Syn base w' B bl bm g t d1 (d.limit n) o1 o2 ∧ Below base w w' := by
  refine (elimit_any h.two.isR n hn).mono ?_
  rintro e w' ⟨rfl, a, b⟩
  exact ⟨rfl, h.disk2 a b rfl⟩
theorem cut1 (h : Syn base w B bl bm g t d d2 o1 o2) (n : Int) (a : Nat) (b c : Int) (hn : n ≤ 9223372036854775807) (ha : a < 18446744073709551616) (hb : -9223372036854775808 ≤ b ∧ b ≤ 9223372036854775807) (hc : -9223372036854775808 ≤ c ∧ c ≤ 9223372036854775807) :
    Calls Tryz.prog 22 #[.pointer (some ⟨B, 0, none⟩), .int .i64 n, .agg #[.int .u64 (a : Int), .int .i64 b, .int .i64 c]] w fun e w' => e = .returned (.tuple #[]) ∧ Syn base w' B bl bm g t (d.cutAt n.toNat a b c) d2 o1 o2 ∧ Below base w w' ∧ OnlyS [B, bl, bm] w w' := by
  refine (cut_any h.one.isD n a b c hn ha hb hc).mono ?_
  rintro e w' ⟨rfl, p, q⟩
  obtain ⟨s1, s2⟩ := h.disk1 p q rfl
  exact ⟨rfl, s1, s2, q⟩
theorem cut2 (h : Syn base w B bl bm g t d1 d o1 o2) (n : Int) (a : Nat) (b c : Int) (hn : n ≤ 9223372036854775807) (ha : a < 18446744073709551616) (hb : -9223372036854775808 ≤ b ∧ b ≤ 9223372036854775807) (hc : -9223372036854775808 ≤ c ∧ c ≤ 9223372036854775807) :
    Calls Tryz.prog 23 #[.pointer (some ⟨g.R, 0, none⟩), .int .i64 n, .agg #[.int .u64 (a : Int), .int .i64 b, .int .i64 c]] w fun e w' => e = .returned (.tuple #[]) ∧ Syn base w' B bl bm g t d1 (d.cutAt n.toNat a b c) o1 o2 ∧ Below base w w' := by
  refine (ecut_any h.two.isR n a b c hn ha hb hc).mono ?_
  rintro e w' ⟨rfl, p, q⟩
  exact ⟨rfl, h.disk2 p q rfl⟩
theorem lay1 (h : Syn base w B bl bm g t d d2 o1 o2) (s : ByteArray) : Calls Tryz.prog 9 #[.pointer (some ⟨B, 0, none⟩), .string s] w fun e w' => e = .returned (.tuple #[]) ∧ Syn base w' B bl bm g t (d.lay s.data.toList) d2 o1 o2 ∧ Below base w w' := by
  refine (lay_any h.one.isD s).mono ?_
  rintro e w' ⟨rfl, a, b⟩
  exact ⟨rfl, h.disk1 a b (Mt.layL_length ..)⟩
theorem lay2 (h : Syn base w B bl bm g t d1 d o1 o2) (s : ByteArray) (hs : s.size ≤ 1000000) : Calls Tryz.prog 10 #[.pointer (some ⟨g.R, 0, none⟩), .string s] w fun e w' => e = .returned (.tuple #[]) ∧ Syn base w' B bl bm g t d1 (d.lay s.data.toList) o1 o2 ∧ Below base w w' := by
  refine (elay_any h.two.isR s hs).mono ?_
  rintro e w' ⟨rfl, a, b⟩
  exact ⟨rfl, h.disk2 a b (Mt.layL_length ..)⟩
theorem crash1 (h : Syn base w B bl bm g t d d2 o1 o2) (k : Nat) (a b : Int) (hk : k < 18446744073709551616) (ha : -9223372036854775808 ≤ a ∧ a ≤ 9223372036854775807) (hb : -9223372036854775808 ≤ b ∧ b ≤ 9223372036854775807) :
    Calls Tryz.prog 20 #[.pointer (some ⟨B, 0, none⟩), .agg #[.int .u64 (k : Int), .int .i64 a, .int .i64 b]] w fun e w' => e = .returned (.tuple #[]) ∧ Syn base w' B bl bm g t (d.crash k a b) d2 o1 o2 ∧ Below base w w' ∧ OnlyS [B, bl, bm] w w' := by
  refine (crash_any h.one.isD k a b hk ha hb).mono ?_
  rintro e w' ⟨rfl, p, q⟩
  obtain ⟨s1, s2⟩ := h.disk1 p q (Mt.crash_len' ..)
  exact ⟨rfl, s1, s2, q⟩
theorem crash2 (h : Syn base w B bl bm g t d1 d o1 o2) (hc : Mt.Calm d) (ht : t < 1000000) (k : Nat) (a b : Int) (hk : k < 18446744073709551616) (ha : -9223372036854775808 ≤ a ∧ a ≤ 9223372036854775807) (hb : -9223372036854775808 ≤ b ∧ b ≤ 9223372036854775807) :
    Calls Tryz.prog 21 #[.pointer (some ⟨g.R, 0, none⟩), .agg #[.int .u64 (k : Int), .int .i64 a, .int .i64 b]] w fun e w' => e = .returned (.tuple #[]) ∧ Syn base w' B bl bm g (t + 1) d1 (d.crash k a b) o1 o2 ∧ Below base w w' := by
  refine (ecrash_any h.two.isR hc ht k a b hk ha hb).mono ?_
  rintro e w' ⟨rfl, p, q⟩
  exact ⟨rfl, h.disk2 p q (Mt.crash_len' ..)⟩
end
end Go.Proofs.YtnioagojiipjlaaGreat

/-
  A script of the journal's statement, as it lies.
-/
namespace Go.Proofs.YtnioagojiipjlaaGreat
open Go.RowKit Go.Maps
/-- A step's seven cells, and the texts in the row that one of them names. -/
structure St6 where
  W : Int
  N : Int
  S : List UInt8
  v : Value
  L : List (List UInt8)
  K : Nat
  T : Int
  A : Int
def St6.cells (a : St6) : Array Value := #[.int .i64 a.W, .int .i64 a.N, .string (Mt.str a.S), a.v, .int .u64 (a.K : Int), .int .i64 a.T, .int .i64 a.A]
structure St6.Ok (a : St6) : Prop where
  n : -9223372036854775808 ≤ a.N ∧ a.N ≤ 9223372036854775807
  s : a.S.length ≤ 9223372036854775807
  l : a.L.length ≤ 9223372036854775807
  b : ∀ b ∈ a.L, b.length ≤ 9223372036854775807
  k : a.K < 18446744073709551616
  t : -9223372036854775808 ≤ a.T ∧ a.T ≤ 9223372036854775807
  a : -9223372036854775808 ≤ a.A ∧ a.A ≤ 9223372036854775807
structure IsSt (w : World) (b off : Nat) (a : St6) : Prop where
  ok : a.Ok
  ts : IsTs w a.v a.L
  cells : ∀ (j : Nat) v, a.cells[j]? = some v → w.cell? ⟨b, off + j, none⟩ = some v
theorem IsSt.below {w u : World} {b off : Nat} {a : St6} (h : IsSt w b off a) (hb : Below w.heap.size w u) : IsSt u b off a := ⟨h.ok, h.ts.below hb, fun j v hj => by
  have hc := h.cells j v hj
  rw [hb.cell (p := ⟨b, off + j, none⟩) (World.block_lt_of_cell? w _ hc)]
  exact hc⟩
theorem IsSt.load {w : World} {b off : Nat} {a : St6} (h : IsSt w b off a) : (loadVar 44 ⟨b, off, none⟩).run Tryz.prog w = .ok (.agg #[.int .i64 a.W, .int .i64 a.N, .string (Mt.str a.S), a.v, .int .u64 (a.K : Int), .int .i64 a.T, .int .i64 a.A]) w := by
  refine run_loadVar_cells w 44 ⟨b, off, none⟩ a.cells _ (fun j v hv => ?_) Tryz.underlying44 rfl (by kernel_rfl)
  rw [add_off]
  exact h.cells j v (by simpa using hv)
/-- A script. -/
def IsSts (w : World) (a : Option Addr) (n : Nat) (f : Nat → St6) : Prop := n = 0 ∨ ∃ b off, a = some ⟨b, off, none⟩ ∧ ∀ k, k < n → IsSt w b (off + k * 7) (f k)
theorem IsSts.get {w u : World} {a : Option Addr} {n : Nat} {f : Nat → St6} (h : IsSts w a n f) (hb : Below w.heap.size w u) {k : Nat} (hk : k < n) : ∃ b off, a = some ⟨b, off, none⟩ ∧ IsSt u b (off + k * 7) (f k) := by
  rcases h with h | ⟨b, off, e, h⟩
  · omega
  · exact ⟨b, off, e, (h k hk).below hb⟩
section
variable {base : Nat} {w u : World} {B bl bm : Nat} {g : Rg} {t t' : Nat} {d : Mt.Dk}
/-- Pr6 new disks. -/
theorem Syn.new (h1 : IsDisk w B bl bm d) (hB : base ≤ B ∧ base ≤ bl ∧ base ≤ bm) (g1 : w.heap.size ≤ g.R) (g2 : w.heap.size ≤ g.bl) (g3 : w.heap.size ≤ g.bw) (g4 : g.bl < g.D ∧ g.bw < g.D ∧ g.P = (fun _ => False) ∧ g.D = u.heap.size) (h2 : IsR u g 0 d) (hb : Below w.heap.size w u) : Syn base u B bl bm g 0 d d none none := by
  have hB1 := h1.ltB
  have hL := h1.ltL
  have hM := h1.ltM
  have hs := hb.size
  refine ⟨⟨by omega, fun x hx => ?_, by omega⟩, h1.below hb, h2, (fun _ _ e => nomatch e), (fun _ _ _ e => nomatch e), (fun _ _ _ _ _ e => nomatch e)⟩
  simp only [List.mem_cons, List.not_mem_nil, or_false] at hx
  rcases hx with rfl | rfl | rfl <;> omega
/-- One disk on both sides, and one journal, or none. -/
inductive Pr6 (base : Nat) (w : World) (B bl bm : Nat) (R : Nat) (t : Nat) (d : Mt.Dk) : Option Addr → Option Addr → Prop
  | nil (g : Rg) : g.R = R → Syn base w B bl bm g t d d none none → Mt.Fit d none → d.lasts.length ≤ 40 → Pr6 base w B bl bm R t d none none
  | both (g : Rg) (J : Nat) (j : Mt.Jn) (Q : Nat) (sl : Int) : g.R = R → Syn base w B bl bm g t d d (some (J, j)) (some (Q, j, sl)) → Mt.Fit d (some j) → d.lasts.length ≤ 40 → Pr6 base w B bl bm R t d (some ⟨J, 0, none⟩) (some ⟨Q, 0, none⟩)
theorem Pr6.below {p q : Option Addr} {R : Nat} (h : Pr6 base w B bl bm R t d p q) (hb : Below w.heap.size w u) : Pr6 base u B bl bm R t d p q := by
  cases h with
  | nil g e hs hf hl => exact .nil g e (hs.below hb) hf hl
  | both g J j Q sl e hs hf hl => exact .both g J j Q sl e (hs.below hb) hf hl
theorem Syn.isR {o1 : Option (Nat × Mt.Jn)} {o2 : Option (Nat × Mt.Jn × Int)} {d1 d2 : Mt.Dk} (h : Syn base w B bl bm g t d1 d2 o1 o2) : IsR w g t d2 := Docu.isR h.two
theorem Syn.isD {o1 : Option (Nat × Mt.Jn)} {o2 : Option (Nat × Mt.Jn × Int)} {d1 d2 : Mt.Dk} (h : Syn base w B bl bm g t d1 d2 o1 o2) : IsDisk w B bl bm d1 := Prog.isD h.one
/-- Both images. -/
theorem image1 {R : Nat} {p q : Option Addr} (h : Pr6 base w B bl bm R t d p q) : Calls Tryz.prog 14 #[.pointer (some ⟨B, 0, none⟩)] w fun e w' => e = .returned (.string (Mt.str d.image)) ∧ Below w.heap.size w w' := by
  cases h with
  | nil g e hs hf hl => exact image_any hs.isD
  | both g J j Q sl e hs hf hl => exact image_any hs.isD
theorem image2 {R : Nat} {p q : Option Addr} (h : Pr6 base w B bl bm R t d p q) : Calls Tryz.prog 15 #[.pointer (some ⟨R, 0, none⟩)] w fun e w' => e = .returned (.string (Mt.str d.image)) ∧ Below w.heap.size w w' := by
  cases h with
  | nil g e hs hf hl => subst e; exact eimage_any hs.isR
  | both g J j Q sl e hs hf hl => subst e; exact eimage_any hs.isR
theorem alike2 {R : Nat} {p q : Option Addr} (h : Pr6 base w B bl bm R t d p q) : Calls Tryz.prog 16 #[.pointer p, .pointer q] w fun e w' => e = .returned (.bool true) ∧ Below w.heap.size w w' := by
  cases h with
  | nil g e hs hf hl =>
    refine (alike_none w).mono ?_
    rintro e w' ⟨h1, rfl⟩
    exact ⟨h1, Below.refl _ _⟩
  | both g J j Q sl e hs hf hl => exact alike_both hs.one hs.two
/-- Behind both Opens. -/
theorem Pr6.opened {P P2 : Nat → Prop} {J Q : Nat} {sl : Int} {d0 : Mt.Dk} {R : Nat} (hs : Syn base w B bl bm ((g.plus P).plus P2) t (Mt.opD d0) (Mt.opD d0) ((Mt.opJ d0).map fun j => (J, j)) ((Mt.opJ d0).map fun j => (Q, j, sl))) (hR : g.R = R) (hc : Mt.Calm2 d0) (hl : d0.lasts.length ≤ 40) : Pr6 base w B bl bm R t (Mt.opD d0) ((Mt.opJ d0).map fun _ => ⟨J, 0, none⟩) ((Mt.opJ d0).map fun _ => ⟨Q, 0, none⟩) := by
  obtain ⟨hf, hz⟩ := Mt.Fit.open hc
  have hl' : (Mt.opD d0).lasts.length ≤ 40 := by rw [hz]; exact hl
  generalize Mt.opD d0 = d1 at *
  generalize Mt.opJ d0 = o at *
  cases o with
  | none => exact .nil ((g.plus P).plus P2) hR hs hf hl'
  | some j => exact .both ((g.plus P).plus P2) J j Q sl hR hs hf hl'
theorem Pr6.calm {R : Nat} {p q : Option Addr} (h : Pr6 base w B bl bm R t d p q) : Mt.Calm2 d ∧ d.lasts.length ≤ 40 ∧ base ≤ w.heap.size := by
  cases h with
  | nil g e hs hf hl => exact ⟨hf.c, hl, hs.size⟩
  | both g J j Q sl e hs hf hl => exact ⟨hf.c, hl, hs.size⟩
theorem Pr6.lts {R : Nat} {p q : Option Addr} (h : Pr6 base w B bl bm R t d p q) : B < w.heap.size ∧ bl < w.heap.size ∧ bm < w.heap.size := by
  cases h with
  | nil g e hs hf hl => exact ⟨hs.isD.ltB, hs.isD.ltL, hs.isD.ltM⟩
  | both g J j Q sl e hs hf hl => exact ⟨hs.isD.ltB, hs.isD.ltL, hs.isD.ltM⟩
theorem Mt.opL_len {d : Mt.Dk} (h : d.Ok) : (Mt.opL d).length ≤ 9223372036854775807 := by
  unfold Mt.opL
  split
  · have := (Mt.findJ_recs d h.most).2
    omega
  · exact Nat.zero_le _
end
end Go.Proofs.YtnioagojiipjlaaGreat

/-
  A step's two calls, one behind the other, over both sides.
-/
namespace Go.Proofs.YtnioagojiipjlaaGreat
open Go.RowKit Go.Maps
section
variable {base : Nat} {w u : World} {B bl bm R : Nat} {t : Nat} {d : Mt.Dk} {p q : Option Addr}
theorem open1p (h : Pr6 base w B bl bm R t d p q) : Calls Tryz.prog 11 #[.pointer (some ⟨B, 0, none⟩)] w fun e w' => ∃ (x : Value) (J : Nat) (P : Nat → Prop) (g : Rg), e = .returned (.tuple #[.pointer ((Mt.opJ d).map fun _ => ⟨J, 0, none⟩), x, .int .i64 (Mt.opE d)]) ∧
    Hid (g.R = R ∧ Syn base w' B bl bm (g.plus P) t (Mt.opD d) d ((Mt.opJ d).map fun j => (J, j)) none ∧ Below base w w' ∧ TsK w' (g.plus P) x (Mt.opL d)) := by
  cases h with
  | nil g e hs hf hl =>
    refine (open1 hs).mono ?_
    rintro e' w' ⟨x, J, P, h1, h2⟩
    exact ⟨x, J, P, g, h1, Lib.hid ⟨e, h2.out⟩⟩
  | both g J j Q sl e hs hf hl =>
    refine (open1 hs).mono ?_
    rintro e' w' ⟨x, J, P, h1, h2⟩
    exact ⟨x, J, P, g, h1, Lib.hid ⟨e, h2.out⟩⟩
theorem crash1p (h : Pr6 base w B bl bm R t d p q) (ht : t < 1000000) (k : Nat) (a b : Int) (hk : k < 18446744073709551616) (ha : -9223372036854775808 ≤ a ∧ a ≤ 9223372036854775807) (hb : -9223372036854775808 ≤ b ∧ b ≤ 9223372036854775807) :
    Calls Tryz.prog 20 #[.pointer (some ⟨B, 0, none⟩), .agg #[.int .u64 (k : Int), .int .i64 a, .int .i64 b]] w fun e w' => e = .returned (.tuple #[]) ∧ OnlyS [B, bl, bm] w w' ∧ Hid (Calls Tryz.prog 21 #[.pointer (some ⟨R, 0, none⟩), .agg #[.int .u64 (k : Int), .int .i64 a, .int .i64 b]] w' fun e w'' => e = .returned (.tuple #[]) ∧ Hid (Pr6 base w'' B bl bm R (t + 1) (d.crash k a b) p q ∧ Below base w w'')) := by
  have hC : Mt.Calm2 d → Mt.Calm2 (d.crash k a b) := fun c => ⟨c.ok.crash k a b, Mt.calm_crash _ _ _ _⟩
  cases h with
  | nil g e hs hf hl =>
    subst e
    refine (crash1 hs k a b hk ha hb).mono ?_
    rintro e w' ⟨rfl, s1, b1, o1⟩
    refine ⟨rfl, o1, Lib.hid ?_⟩
    refine (crash2 s1 hf.c.calm ht k a b hk ha hb).mono ?_
    rintro e w'' ⟨rfl, s2, b2⟩
    exact ⟨rfl, Lib.hid ⟨.nil g rfl s2 (hf.disk (hC hf.c) (Mt.crash_len' ..)) (by rw [Mt.crash_len']; exact hl), b1.trans b2⟩⟩
  | both g J j Q sl e hs hf hl =>
    subst e
    refine (crash1 hs k a b hk ha hb).mono ?_
    rintro e w' ⟨rfl, s1, b1, o1⟩
    refine ⟨rfl, o1, Lib.hid ?_⟩
    refine (crash2 s1 hf.c.calm ht k a b hk ha hb).mono ?_
    rintro e w'' ⟨rfl, s2, b2⟩
    exact ⟨rfl, Lib.hid ⟨.both g J j Q sl rfl s2 (hf.disk (hC hf.c) (Mt.crash_len' ..)) (by rw [Mt.crash_len']; exact hl), b1.trans b2⟩⟩
theorem cut1p (h : Pr6 base w B bl bm R t d p q) (n : Int) (hn : n ≤ 9223372036854775807) (k : Nat) (a b : Int) (hk : k < 18446744073709551616) (ha : -9223372036854775808 ≤ a ∧ a ≤ 9223372036854775807) (hb : -9223372036854775808 ≤ b ∧ b ≤ 9223372036854775807) :
    Calls Tryz.prog 22 #[.pointer (some ⟨B, 0, none⟩), .int .i64 n, .agg #[.int .u64 (k : Int), .int .i64 a, .int .i64 b]] w fun e w' => e = .returned (.tuple #[]) ∧ OnlyS [B, bl, bm] w w' ∧ Hid (Calls Tryz.prog 23 #[.pointer (some ⟨R, 0, none⟩), .int .i64 n, .agg #[.int .u64 (k : Int), .int .i64 a, .int .i64 b]] w' fun e w'' => e = .returned (.tuple #[]) ∧ Hid (Pr6 base w'' B bl bm R t (d.cutAt n.toNat k a b) p q ∧ Below base w w'')) := by
  have hC : Mt.Calm2 d → Mt.Calm2 (d.cutAt n.toNat k a b) := fun c => ⟨⟨c.ok.len, c.ok.most, c.ok.lasts, c.ok.waits, c.ok.room, by show n.toNat ≤ _; omega, hk, ha, hb⟩, Mt.calm_cut c.calm _ _ _ _⟩
  cases h with
  | nil g e hs hf hl =>
    subst e
    refine (cut1 hs n k a b hn hk ha hb).mono ?_
    rintro e w' ⟨rfl, s1, b1, o1⟩
    refine ⟨rfl, o1, Lib.hid ?_⟩
    refine (cut2 s1 n k a b hn hk ha hb).mono ?_
    rintro e w'' ⟨rfl, s2, b2⟩
    exact ⟨rfl, Lib.hid ⟨.nil g rfl s2 (hf.disk (hC hf.c) rfl) hl, b1.trans b2⟩⟩
  | both g J j Q sl e hs hf hl =>
    subst e
    refine (cut1 hs n k a b hn hk ha hb).mono ?_
    rintro e w' ⟨rfl, s1, b1, o1⟩
    refine ⟨rfl, o1, Lib.hid ?_⟩
    refine (cut2 s1 n k a b hn hk ha hb).mono ?_
    rintro e w'' ⟨rfl, s2, b2⟩
    exact ⟨rfl, Lib.hid ⟨.both g J j Q sl rfl s2 (hf.disk (hC hf.c) rfl) hl, b1.trans b2⟩⟩
theorem limit1p (h : Pr6 base w B bl bm R t d p q) (n : Int) (hn : n ≤ 9223372036854775807) :
    Calls Tryz.prog 24 #[.pointer (some ⟨B, 0, none⟩), .int .i64 n] w fun e w' => e = .returned (.tuple #[]) ∧ OnlyS [B, bl, bm] w w' ∧ Hid (Calls Tryz.prog 25 #[.pointer (some ⟨R, 0, none⟩), .int .i64 n] w' fun e w'' => e = .returned (.tuple #[]) ∧ Hid (Pr6 base w'' B bl bm R t (d.limit n) p q ∧ Below base w w'')) := by
  have hC : Mt.Calm2 d → Mt.Calm2 (d.limit n) := fun c => ⟨c.ok.limit n, Mt.calm_limit c.calm n⟩
  cases h with
  | nil g e hs hf hl =>
    subst e
    refine (limit1 hs n).mono ?_
    rintro e w' ⟨rfl, s1, b1, o1⟩
    refine ⟨rfl, o1, Lib.hid ?_⟩
    refine (limit2 s1 n hn).mono ?_
    rintro e w'' ⟨rfl, s2, b2⟩
    exact ⟨rfl, Lib.hid ⟨.nil g rfl s2 (hf.disk (hC hf.c) rfl) hl, b1.trans b2⟩⟩
  | both g J j Q sl e hs hf hl =>
    subst e
    refine (limit1 hs n).mono ?_
    rintro e w' ⟨rfl, s1, b1, o1⟩
    refine ⟨rfl, o1, Lib.hid ?_⟩
    refine (limit2 s1 n hn).mono ?_
    rintro e w'' ⟨rfl, s2, b2⟩
    exact ⟨rfl, Lib.hid ⟨.both g J j Q sl rfl s2 (hf.disk (hC hf.c) rfl) hl, b1.trans b2⟩⟩
/-- Append of both. -/
theorem append1p {J Q : Nat} (h : Pr6 base w B bl bm R t d (some ⟨J, 0, none⟩) (some ⟨Q, 0, none⟩)) (s : List UInt8) (hs : s.length ≤ 262144) (ht : t + 20010 < 1000000) :
    Calls Tryz.prog 27 #[.pointer (some ⟨J, 0, none⟩), .string (Mt.str s)] w fun e w' => ∃ E : Int, e = .returned (.int .i64 E) ∧ Hid (Calls Tryz.prog 28 #[.pointer (some ⟨Q, 0, none⟩), .string (Mt.str s)] w' fun e w'' => e = .returned (.int .i64 E) ∧ Hid (∃ d', Pr6 base w'' B bl bm R (t + 20010) d' (some ⟨J, 0, none⟩) (some ⟨Q, 0, none⟩) ∧ Below base w w'')) := by
  cases h with
  | both g J j Q sl e hsy hf hl =>
    subst e
    obtain ⟨_, hc, hg⟩ := hf.jn j rfl
    refine (append1 hsy s hg hc (by omega)).mono ?_
    rintro e w' ⟨rfl, h2⟩
    obtain ⟨s1, b1⟩ := h2.out
    refine ⟨_, rfl, Lib.hid ?_⟩
    refine (append2 s1 s hs hc hg ht).mono ?_
    rintro e w'' ⟨rfl, h3⟩
    obtain ⟨s2, b2⟩ := h3.out
    obtain ⟨hf2, hl2⟩ := hf.append s
    exact ⟨rfl, Lib.hid ⟨_, .both g J _ Q sl rfl s2 hf2 (by rw [hl2]; exact hl), b1.trans b2⟩⟩
theorem Mt.needs_few (k : Nat) : ∀ (bs : List (List UInt8)), (∀ b ∈ bs, b.length ≤ 110 * k + 110) → Mt.needs bs ≤ (k + 1) * bs.length
  | [], _ => by simp [Mt.needs]
  | b :: r, h => by
    have h1 := Mt.needs_few k r (fun x hx => h x (List.mem_cons_of_mem _ hx))
    have h2 := h b (List.mem_cons_self ..)
    have h3 : Mt.cellsN b.length ≤ k + 1 := by unfold Mt.cellsN; omega
    rw [Mt.needs, List.length_cons, Nat.mul_succ]
    omega
/-- Reset of both, of texts in a row that was made just now. -/
theorem reset1p {J Q : Nat} {v : Value} {bs : List (List UInt8)} (h : Pr6 base w B bl bm R t d (some ⟨J, 0, none⟩) (some ⟨Q, 0, none⟩)) (hb : Below w.heap.size w u) (ho : IsOwn 9 1 w.heap.size u v bs.length (tcs bs)) (hn : bs.length ≤ 9) (hl5 : ∀ b ∈ bs, b.length ≤ 500) (ht : t + 20010 < 1000000) :
    Calls Tryz.prog 18 #[.pointer (some ⟨J, 0, none⟩), v] u fun e w' => ∃ E : Int, e = .returned (.int .i64 E) ∧ Hid (Calls Tryz.prog 19 #[.pointer (some ⟨Q, 0, none⟩), v] w' fun e w'' => e = .returned (.int .i64 E) ∧ Hid (∃ d', Pr6 base w'' B bl bm R (t + 20010) d' (some ⟨J, 0, none⟩) (some ⟨Q, 0, none⟩) ∧ Below base u w'')) := by
  have hts : IsTs u v bs := ho.ts
  cases h with
  | both g J j Q sl e hsy hf hl =>
    subst e
    obtain ⟨P, hs2, hp, hkeep⟩ := hsy.keepRow hb ho
    have hlt := hsy.isD
    have hJ : J < w.heap.size := (JD.lt (hsy.one : JD w J B bl bm j d)).1
    refine (reset1 hs2 hts (by omega)).mono ?_
    rintro e w' ⟨rfl, h2⟩
    obtain ⟨s1, b1, o1⟩ := h2.out
    refine ⟨_, rfl, Lib.hid ?_⟩
    have hne := Mt.needs_few 4 bs (fun b hb => by have := hl5 b hb; omega)
    refine (reset2 s1 (hkeep _ _ o1 (fun k hk => ?_)) (by omega) (fun b hb => by have := hl5 b hb; omega) (by omega) ht).mono ?_
    · have h1 := hlt.ltB
      have h2 := hlt.ltL
      have h3 := hlt.ltM
      simp only [List.mem_cons, List.not_mem_nil, or_false] at hk
      rcases hk with rfl | rfl | rfl | rfl <;> omega
    rintro e w'' ⟨rfl, h3⟩
    obtain ⟨sl', s2, b2⟩ := h3.out
    obtain ⟨hf2, hl2⟩ := hf.reset bs
    exact ⟨rfl, Lib.hid ⟨_, .both (g.plus P) J _ Q sl' rfl s2 hf2 (by rw [hl2]; exact hl), b1.trans b2⟩⟩
end
end Go.Proofs.YtnioagojiipjlaaGreat
