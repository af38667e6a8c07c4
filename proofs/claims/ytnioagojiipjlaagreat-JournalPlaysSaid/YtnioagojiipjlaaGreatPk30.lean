/-
  Some texts of one proof, one behind the other.
-/
import Derived.Test.YtnioagojiipjlaaGreatPk24
import Derived.Test.YtnioagojiipjlaaGreatPk29

/-
  Open of both, side by side.
-/
namespace Go.Proofs.YtnioagojiipjlaaGreat
open Go.RowKit Go.Maps
/-- What Open comes to: its error, its disk, its records, its journal. -/
def Mt.opE (d : Mt.Dk) : Int := if d.lasts.length < 4 then 2 else if d.off = true then 10 else (Mt.openJ d).2.2
def Mt.opD (d : Mt.Dk) : Mt.Dk := if d.lasts.length < 4 then d else if d.off = true then d else (Mt.openJ d).1
def Mt.opL (d : Mt.Dk) : List (List UInt8) := if Mt.opE d = 0 then (Mt.findJ d).2 else []
def Mt.opJ (d : Mt.Dk) : Option Mt.Jn := if Mt.opE d = 0 then some (Mt.openJ d).2.1 else none
theorem Mt.op_small {d : Mt.Dk} (h : d.lasts.length < 4) : Mt.opE d = 2 ∧ Mt.opD d = d ∧ Mt.opL d = [] ∧ Mt.opJ d = none := by
  have h1 : Mt.opE d = 2 := by unfold Mt.opE; rw [if_pos h]
  exact ⟨h1, by unfold Mt.opD; rw [if_pos h], by unfold Mt.opL; rw [h1]; rfl, by unfold Mt.opJ; rw [h1]; rfl⟩
theorem Mt.op_off {d : Mt.Dk} (h : ¬ d.lasts.length < 4) (ho : d.off = true) : Mt.opE d = 10 ∧ Mt.opD d = d ∧ Mt.opL d = [] ∧ Mt.opJ d = none := by
  have h1 : Mt.opE d = 10 := by unfold Mt.opE; rw [if_neg h, if_pos ho]
  exact ⟨h1, by unfold Mt.opD; rw [if_neg h, if_pos ho], by unfold Mt.opL; rw [h1]; rfl, by unfold Mt.opJ; rw [h1]; rfl⟩
theorem Mt.op_bad {d : Mt.Dk} (h : ¬ d.lasts.length < 4) (ho : ¬ d.off = true) (he : (Mt.openJ d).2.2 ≠ 0) : Mt.opE d = (Mt.openJ d).2.2 ∧ Mt.opD d = (Mt.openJ d).1 ∧ Mt.opL d = [] ∧ Mt.opJ d = none := by
  have h1 : Mt.opE d = (Mt.openJ d).2.2 := by unfold Mt.opE; rw [if_neg h, if_neg ho]
  exact ⟨h1, by unfold Mt.opD; rw [if_neg h, if_neg ho], by unfold Mt.opL; rw [h1, if_neg he], by unfold Mt.opJ; rw [h1, if_neg he]⟩
theorem Mt.op_good {d : Mt.Dk} (h : ¬ d.lasts.length < 4) (ho : ¬ d.off = true) (he : (Mt.openJ d).2.2 = 0) : Mt.opE d = 0 ∧ Mt.opD d = (Mt.openJ d).1 ∧ Mt.opL d = (Mt.findJ d).2 ∧ Mt.opJ d = some (Mt.openJ d).2.1 := by
  have h1 : Mt.opE d = 0 := by unfold Mt.opE; rw [if_neg h, if_neg ho, he]
  exact ⟨h1, by unfold Mt.opD; rw [if_neg h, if_neg ho], by unfold Mt.opL; rw [h1, if_pos rfl], by unfold Mt.opJ; rw [h1, if_pos rfl]⟩
/-- Texts in a row that the document's disk keeps. -/
def TsK (w : World) (g : Rg) (v : Value) (ls : List (List UInt8)) : Prop := IsTs w v ls ∧ (ls ≠ [] → ∀ a n c, v = .slice (some a) n c → (a.block < g.D ∨ g.P a.block) ∧ a.block ≠ g.R ∧ a.block ≠ g.bl ∧ a.block ≠ g.bw)
theorem TsK.nil (w : World) (g : Rg) : TsK w g (.slice none 0 0) [] := ⟨⟨none, 0, rfl, by simp, .inl rfl⟩, fun h => absurd rfl h⟩
theorem TsK.fr {w u : World} {g : Rg} {v : Value} {ls : List (List UInt8)} (h : TsK w g v ls) (hf : Fr g w u) : IsTs u v ls := by
  obtain ⟨⟨a, c, rfl, hc, h1⟩, h2⟩ := h
  refine ⟨a, c, rfl, hc, ?_⟩
  by_cases hn : ls = []
  · exact .inl hn
  rcases h1 with h1 | ⟨b, off, e, h3, h4⟩
  · exact absurd h1 hn
  right
  subst e
  obtain ⟨k1, k2, k3, k4⟩ := h2 hn _ _ _ rfl
  exact ⟨b, off, rfl, Nat.lt_of_lt_of_le h3 hf.size, fun j hj => (cell_block (hf.block b k1 h3 k2 k3 k4) _).trans (h4 j hj)⟩
section
variable {base : Nat} {w u : World} {B bl bm : Nat} {g : Rg} {t : Nat} {d d1 : Mt.Dk} {o1 : Option (Nat × Mt.Jn)} {o2 : Option (Nat × Mt.Jn × Int)}
theorem Syn.closed1' (h : Syn base w B bl bm g t d1 d o1 o2) {d' : Mt.Dk} (ho : OnlyS [B, bl, bm] w u) (h1 : IsDisk u B bl bm d') : Syn base u B bl bm (g.plus fun _ => False) t d' d none none ∧ Below base w u := by
  obtain ⟨hs, hb⟩ := h.closed1 ho h1
  refine ⟨⟨hs.apart.plus _, hs.one, hs.two.isR.less rfl (fun k hk => hk.elim id False.elim), (fun _ _ e => nomatch e), (fun _ _ _ e => nomatch e), (fun _ _ _ _ _ e => nomatch e)⟩, hb⟩
/-- The program's Open. -/
theorem open1 (h : Syn base w B bl bm g t d d o1 o2) : Calls Tryz.prog 11 #[.pointer (some ⟨B, 0, none⟩)] w fun e w' => ∃ (x : Value) (J : Nat) (P : Nat → Prop), e = .returned (.tuple #[.pointer ((Mt.opJ d).map fun _ => ⟨J, 0, none⟩), x, .int .i64 (Mt.opE d)]) ∧
    Hid (Syn base w' B bl bm (g.plus P) t (Mt.opD d) d ((Mt.opJ d).map fun j => (J, j)) none ∧ Below base w w' ∧ TsK w' (g.plus P) x (Mt.opL d)) := by
  have hD := h.one.isD
  by_cases h4 : d.lasts.length < 4
  · obtain ⟨e1, e2, e3, e4⟩ := Mt.op_small h4
    rw [e1, e2, e3, e4]
    refine (open_small hD h4).mono ?_
    rintro e w' ⟨rfl, rfl⟩
    obtain ⟨hs, hb⟩ := h.closed1' (OnlyS.refl _ _) hD
    exact ⟨_, 0, fun _ => False, rfl, Lib.hid ⟨hs, hb, TsK.nil _ _⟩⟩
  · by_cases ho : d.off = true
    · obtain ⟨e1, e2, e3, e4⟩ := Mt.op_off h4 ho
      rw [e1, e2, e3, e4]
      refine (open_off hD (by omega) ho).mono ?_
      rintro e w' ⟨rfl, hb0⟩
      have ho1 : OnlyS [B, bl, bm] w w' := Below.onlyS hb0 (Nat.le_refl _)
      obtain ⟨hs, hb⟩ := h.closed1' ho1 (hD.below hb0)
      exact ⟨_, 0, fun _ => False, rfl, Lib.hid ⟨hs, hb, TsK.nil _ _⟩⟩
    · refine (open_new hD (by omega) (by simpa using ho)).mono ?_
      rintro e w' ⟨hgood, hbad, hon⟩
      by_cases he : (Mt.openJ d).2.2 = 0
      · obtain ⟨e1, e2, e3, e4⟩ := Mt.op_good h4 ho he
        rw [e1, e2, e3, e4]
        obtain ⟨J, x, j', hJ, rfl, hts, hjd, hl⟩ := hgood he
        have hl' : j' = (Mt.openJ d).2.1 := hl
        subst hl'
        obtain ⟨a, c, rfl, hc, hrest⟩ := hts.1
        have hJu := hjd.lt.1
        have hlt := h.apart.lt
        have hsz := h.two.isR.size
        refine ⟨_, J, fun k => k = J ∨ (k < w'.heap.size ∧ w.heap.size ≤ k ∧ ∃ a', a = some a' ∧ a'.block = k), rfl, Lib.hid ?_⟩
        obtain ⟨hs, hb⟩ := h.opened1 hon hjd hJ (by omega) (P := fun k => k = J ∨ (k < w'.heap.size ∧ w.heap.size ≤ k ∧ ∃ a', a = some a' ∧ a'.block = k)) (fun k hk => by rcases hk with rfl | ⟨h1, h2, _⟩ <;> omega) (.inl rfl)
        refine ⟨hs, hb, hts.1, fun hne a' n c' e => ?_⟩
        cases e
        have h1 := hts.2 _ _ _ rfl
        have h2 : a'.block < w'.heap.size := by
          rcases hrest with h3 | ⟨b, off, e, h3, _⟩
          · exact absurd h3 hne
          · cases e; exact h3
        obtain ⟨lim, most, tv, tn, tcs, hd, _⟩ := h.two.isR
        obtain ⟨k1, k2, _⟩ := hd.apart (by omega)
        have k3 := hd.ltR
        have k4 := hd.size
        exact ⟨.inr (Or.inr (Or.inr ⟨h2, h1, a', rfl, rfl⟩)), by show a'.block ≠ g.R; omega, by show a'.block ≠ g.bl; omega, by show a'.block ≠ g.bw; omega⟩
      · obtain ⟨e1, e2, e3, e4⟩ := Mt.op_bad h4 ho he
        rw [e1, e2, e3, e4]
        obtain ⟨rfl, hd'⟩ := hbad he
        obtain ⟨hs, hb⟩ := h.closed1' hon hd'
        exact ⟨_, 0, fun _ => False, rfl, Lib.hid ⟨hs, hb, TsK.nil _ _⟩⟩
/-- The document's Open. -/
theorem open2 (h : Syn base w B bl bm g t d1 d o1 none) (ht : t + 20010 < 1000000) (hsm : d.lasts.length ≤ 1000) : Calls Tryz.prog 12 #[.pointer (some ⟨g.R, 0, none⟩)] w fun e w' => ∃ (x : Value) (Q : Nat) (P : Nat → Prop) (sl : Int), e = .returned (.tuple #[.pointer ((Mt.opJ d).map fun _ => ⟨Q, 0, none⟩), x, .int .i64 (Mt.opE d)]) ∧
    Hid (Syn base w' B bl bm (g.plus P) (t + 20010) d1 (Mt.opD d) o1 ((Mt.opJ d).map fun j => (Q, j, sl)) ∧ Below base w w' ∧ IsTs w' x (Mt.opL d) ∧ ∀ v ls, TsK w g v ls → IsTs w' v ls) := by
  have hR : IsR w g t d := h.two
  have hstay : ∀ {u : World} {t' : Nat}, Syn base u B bl bm g t' d1 d o1 none → t' ≤ t + 20010 → Syn base u B bl bm (g.plus fun _ => False) (t + 20010) d1 d o1 none := fun hs hle =>
    ⟨hs.apart.plus _, hs.one, (IsR.less (g' := g.plus fun _ => False) hs.two.isR rfl (fun k (hk : g.P k ∨ False) => hk.elim id False.elim)).mono hle, (fun J j e => ⟨.inl (hs.j1 J j e).1, (hs.j1 J j e).2⟩), (fun _ _ _ e => nomatch e), (fun _ _ _ _ _ _ e => nomatch e)⟩
  by_cases h4 : d.lasts.length < 4
  · obtain ⟨e1, e2, e3, e4⟩ := Mt.op_small h4
    rw [e1, e2, e3, e4]
    refine (ropen_small hR h4).mono ?_
    rintro e w' ⟨rfl, rfl⟩
    exact ⟨_, 0, fun _ => False, 0, rfl, Lib.hid ⟨hstay h (by omega), Below.refl _ _, ⟨none, 0, rfl, by simp, .inl rfl⟩, fun v ls hv => hv.1⟩⟩
  · by_cases ho : d.off = true
    · obtain ⟨e1, e2, e3, e4⟩ := Mt.op_off h4 ho
      rw [e1, e2, e3, e4]
      refine (ropen_off hR (by omega) ho).mono ?_
      rintro e w' ⟨rfl, rfl⟩
      exact ⟨_, 0, fun _ => False, 0, rfl, Lib.hid ⟨hstay h (by omega), Below.refl _ _, ⟨none, 0, rfl, by simp, .inl rfl⟩, fun v ls hv => hv.1⟩⟩
    · refine (ropen_on hR (by omega) (by simpa using ho) hsm ht).mono ?_
      rintro e w' ⟨hgood, hbad, hfr⟩
      by_cases he : (Mt.openJ d).2.2 = 0
      · obtain ⟨e1, e2, e3, e4⟩ := Mt.op_good h4 ho he
        rw [e1, e2, e3, e4]
        obtain ⟨x, sl', rfl, hts, hq⟩ := hgood he
        obtain ⟨hs, hb⟩ := h.opened2 hfr hq
        exact ⟨_, w.heap.size, fun k => k = w.heap.size, sl', rfl, Lib.hid ⟨hs, hb, hts, fun v ls hv => hv.fr hfr⟩⟩
      · obtain ⟨e1, e2, e3, e4⟩ := Mt.op_bad h4 ho he
        rw [e1, e2, e3, e4]
        obtain ⟨rfl, hd'⟩ := hbad he
        obtain ⟨hs, hb⟩ := h.second (o2' := none) hfr (t' := t + 20010) (d' := (Mt.openJ d).1) hd' rfl
        refine ⟨_, 0, fun _ => False, 0, rfl, Lib.hid ⟨⟨hs.apart.plus _, hs.one, hs.two.isR.less rfl (fun k hk => hk.elim id False.elim), (fun J j e => ⟨.inl (hs.j1 J j e).1, (hs.j1 J j e).2⟩), (fun _ _ _ e => nomatch e), (fun _ _ _ _ _ _ e => nomatch e)⟩, hb, ⟨none, 0, rfl, by simp, .inl rfl⟩, fun v ls hv => hv.fr hfr⟩⟩
end
end Go.Proofs.YtnioagojiipjlaaGreat

/-
  The statement's alike: both journals hold the same.
-/
namespace Go.Proofs.YtnioagojiipjlaaGreat
open Go.RowKit Go.Maps
section
variable {base : Nat} {w u : World} {B bl bm J Q : Nat} {g : Rg} {t : Nat} {d : Mt.Dk} {j : Mt.Jn} {sl : Int}
set_option maxRecDepth 100000 in
theorem alike_none (w : World) : Calls Tryz.prog 16 #[.pointer none, .pointer none] w fun e w' => e = .returned (.bool true) ∧ w = w' := by
  have H1 := Lib.hid (fun u => len_nil u)
  have H2 := Lib.hid (fun u => gen_nil u)
  have H3 := Lib.hid (fun u => left_nil u)
  go_enter Tryz.func16, Tryz.ntmps16
  go_wp2_with fail
  with_reducible refine (H1.out _).mono ?_
  rintro e w1 ⟨rfl, rfl⟩
  go_wp2_with fail
  with_reducible refine (H2.out _).mono ?_
  rintro e w1 ⟨rfl, rfl⟩
  go_wp2_with fail
  with_reducible refine (H3.out _).mono ?_
  rintro e w1 ⟨rfl, rfl⟩
  go_wp2_with fail
  go_ret
  exact ⟨rfl, rfl⟩
set_option maxRecDepth 100000 in
set_option maxHeartbeats 1000000 in
theorem alike_both (h1 : JD w J B bl bm j d) (h2 : QD w Q g t j sl d) : Calls Tryz.prog 16 #[.pointer (some ⟨J, 0, none⟩), .pointer (some ⟨Q, 0, none⟩)] w fun e w' => e = .returned (.bool true) ∧ Below w.heap.size w w' := by
  have H1 : Hid (∀ u, Below w.heap.size w u → Calls Tryz.prog 45 #[.pointer (some ⟨J, 0, none⟩)] u fun e w' => e = .returned (.int .i64 (j.count : Int)) ∧ u = w') := Lib.hid (fun u hu => len_any (h1.below hu).jn)
  have H2 : Hid (∀ u, Below w.heap.size w u → Calls Tryz.prog 33 #[.pointer (some ⟨J, 0, none⟩)] u fun e w' => e = .returned (.int .i64 (j.gen : Int)) ∧ u = w') := Lib.hid (fun u hu => gen_any (h1.below hu).jn h1.gen)
  have H3 : Hid (∀ u, Below w.heap.size w u → Calls Tryz.prog 34 #[.pointer (some ⟨J, 0, none⟩)] u fun e w' => e = .returned (.int .i64 (j.left d : Int)) ∧ Below u.heap.size u w') := Lib.hid (fun u hu => left_any (h1.below hu))
  have H4 : Hid (∀ u, Below w.heap.size w u → Calls Tryz.prog 46 #[.pointer (some ⟨Q, 0, none⟩)] u fun e w' => e = .returned (.int .i64 (j.left d : Int)) ∧ Below u.heap.size u w') := Lib.hid (fun u hu => rleft_any (h2.below hu))
  have HC : Hid (∀ u, Below w.heap.size w u → u.cell? ⟨Q, 5, none⟩ = some (.int .i64 (j.count : Int)) ∧ u.cell? ⟨Q, 1, none⟩ = some (.int .i64 (j.gen : Int))) := Lib.hid (fun u hu => by
    obtain ⟨-, k1, -, -, -, k5, -⟩ := (h2.below hu).jn.cells
    exact ⟨k5, k1⟩)
  have HK := Lib.hid ((Below.refl w.heap.size w).drew)
  obtain ⟨c5, c1⟩ := HC.out w (Below.refl _ _)
  generalize j.left d = L at *
  generalize j.count = C at *
  generalize j.gen = G at *
  clear h1 h2
  go_enter Tryz.func16, Tryz.ntmps16
  go_upto_region 3 with fail
  go_region_held3 (fun w' => w'.cell? ⟨Q, 5, none⟩ = some (.int .i64 (C : Int)) ∧ w'.cell? ⟨Q, 1, none⟩ = some (.int .i64 (G : Int)))
    (first
      | go_keep
      | exact qq)
    (first
      | (go_at_call 45; (with_reducible refine (H1.out _ HK.out).mono ?_); rintro e w9 ⟨rfl, rfl⟩)
      | (go_at_call 33; (with_reducible refine (H2.out _ HK.out).mono ?_); rintro e w9 ⟨rfl, rfl⟩)
      | (go_at_call 34; (with_reducible refine (H3.out _ HK.out).mono ?_); rintro e w9 ⟨rfl, hb⟩; have HK := Lib.hid (HK.out.trans (hb.mono HK.out.size)); have qq := HC.out _ HK.out; clear hb)
      | (go_at_call 46; (with_reducible refine (H4.out _ HK.out).mono ?_); rintro e w9 ⟨rfl, hb⟩; have HK := Lib.hid (HK.out.trans (hb.mono HK.out.size)); have qq := HC.out _ HK.out; clear hb))
  all_goals
    go_wp2_with fail
    go_ret
    exact ⟨rfl, HK.out⟩
end
end Go.Proofs.YtnioagojiipjlaaGreat

/-
  Reset, Append and the disks' calls, side by side.
-/
namespace Go.Proofs.YtnioagojiipjlaaGreat
open Go.RowKit Go.Maps
section
variable {base : Nat} {w u x : World} {B bl bm J Q : Nat} {g : Rg} {t t' : Nat} {d d' d1 d2 : Mt.Dk} {j j1 : Mt.Jn} {sl : Int} {o1 : Option (Nat × Mt.Jn)} {o2 : Option (Nat × Mt.Jn × Int)}
/-- A row of the call's own is kept from now on. -/
theorem Syn.keepRow (h : Syn base w B bl bm g t d1 d2 o1 (some (Q, j, sl))) (hb : Below w.heap.size w u) {v : Value} {ls : List (List UInt8)} (ho : IsOwn 9 1 w.heap.size u v ls.length (tcs ls)) :
    ∃ P : Nat → Prop, Syn base u B bl bm (g.plus P) t d1 d2 o1 (some (Q, j, sl)) ∧ TsP u (g.plus P) Q v ls ∧ ∀ x S, OnlyS S u x → (∀ k ∈ S, k < w.heap.size) → TsP x (g.plus P) Q v ls := by
  have hq : QD w Q g t j sl d2 := h.two
  have hs := h.below hb
  obtain ⟨l1, l2, l3, l4, l5⟩ := hq.lts
  obtain ⟨gg, hg, hr⟩ := ho
  have hmore : ∀ P : Nat → Prop, (∀ k, P k → w.heap.size ≤ k ∧ k < u.heap.size) → Syn base u B bl bm (g.plus P) t d1 d2 o1 (some (Q, j, sl)) := fun P hP => by
    have hR : IsR u (g.plus P) t d2 := hq.dk.apartPlus (S := []) (Below.onlyS hb (Nat.le_refl _)) (fun k hk => by cases hk) hP
    have hu : QD u Q g t j sl d2 := hs.two
    exact ⟨hs.apart.plus P, hs.one, ⟨hu.jn, hR, .inl hu.kept, hu.ne, hu.four, hu.half, hu.head, hu.gen, hu.used, hu.count, hu.slot⟩, (fun J j e => ⟨.inl (hs.j1 J j e).1, (hs.j1 J j e).2⟩), hs.j2, hs.ne⟩
  rcases Nat.eq_zero_or_pos ls.length with h0 | h0
  · obtain ⟨a, c, e⟩ := hr.form
    have hn : ls = [] := List.eq_nil_of_length_eq_zero h0
    exact ⟨fun _ => False, hmore _ (fun k hk => hk.elim), ⟨a, c, e, .inl hn⟩, fun x S _ _ => ⟨a, c, e, .inl hn⟩⟩
  · obtain ⟨off, cap, e, h2, h3, h4⟩ := hr.cell h0
    have hcell : ∀ x, x.heap[gg]? = u.heap[gg]? → u.heap.size ≤ x.heap.size → TsP x (g.plus fun k => k = gg) Q v ls := fun x hx hsz =>
      ⟨_, _, e, .inr ⟨gg, off, rfl, Nat.lt_of_lt_of_le h3 hsz, .inr (.inr rfl), by show gg ≠ g.R; omega, by show gg ≠ g.bl; omega, by show gg ≠ g.bw; omega, by omega, fun j hj => by
        rw [cell_block hx, h4 j (by rw [tcs_length]; exact hj)]
        simp [tcs]⟩⟩
    refine ⟨fun k => k = gg, hmore _ (fun k hk => by subst hk; exact ⟨hg, h3⟩), hcell u rfl (Nat.le_refl _), fun x S hx hS => hcell x (hx.block gg h3 (fun hm => ?_)) hx.size⟩
    have := hS gg hm
    omega
/-- The program's Reset. -/
theorem reset1 (h : Syn base w B bl bm g t d d2 (some (J, j)) o2) {v : Value} {bs : List (List UInt8)} (hv : IsTs w v bs) (hn : bs.length ≤ 8796093022208) : Calls Tryz.prog 18 #[.pointer (some ⟨J, 0, none⟩), v] w fun e w' => e = .returned (.int .i64 (Mt.resetJ d j bs).2.2) ∧
    Hid (Syn base w' B bl bm g t (Mt.resetJ d j bs).1 d2 (some (J, (Mt.resetJ d j bs).2.1)) o2 ∧ Below base w w' ∧ OnlyS [J, B, bl, bm] w w') := by
  have hj : JD w J B bl bm j d := h.one
  refine (reset_any6 hj hv hn).mono ?_
  rintro e w' ⟨rfl, ⟨j', hj', hl⟩, ho⟩
  have hl' : j' = (Mt.resetJ d j bs).2.1 := hl
  subst hl'
  obtain ⟨hs, hb⟩ := h.first (o1' := some (J, (Mt.resetJ d j bs).2.1)) ho hj' rfl
  exact ⟨rfl, Lib.hid ⟨hs, hb, ho⟩⟩
/-- The document's Reset. -/
theorem reset2 (h : Syn base w B bl bm g t d1 d o1 (some (Q, j, sl))) {v : Value} {bs : List (List UInt8)} (hv : TsP w g Q v bs) (hn : bs.length ≤ 1000) (hb : ∀ b ∈ bs, b.length ≤ 262144) (hne : Mt.needs bs ≤ 10000) (ht : t + 20010 < 1000000) : Calls Tryz.prog 19 #[.pointer (some ⟨Q, 0, none⟩), v] w fun e w' => e = .returned (.int .i64 (Mt.resetJ d j bs).2.2) ∧
    Hid (∃ sl', Syn base w' B bl bm g (t + 20010) d1 (Mt.resetJ d j bs).1 o1 (some (Q, (Mt.resetJ d j bs).2.1, sl')) ∧ Below base w w') := by
  have hq : QD w Q g t j sl d := h.two
  refine (rreset_any hq hv hn hb hne ht).mono ?_
  rintro e w' ⟨rfl, ⟨sl', hq', _⟩, hf⟩
  obtain ⟨hs, hb⟩ := h.second (o2' := some (Q, (Mt.resetJ d j bs).2.1, sl')) hf hq' rfl
  exact ⟨rfl, Lib.hid ⟨sl', hs, hb⟩⟩
/-- The program's Append. -/
theorem append1 (h : Syn base w B bl bm g t d d2 (some (J, j)) o2) (b : List UInt8) (hg : j.gen < 4294967296) (hc : j.count ≤ j.used) (hb : b.length ≤ 140737488355328) : Calls Tryz.prog 27 #[.pointer (some ⟨J, 0, none⟩), .string (Mt.str b)] w fun e w' => e = .returned (.int .i64 (Mt.appendJ d j b).2.2) ∧
    Hid (Syn base w' B bl bm g t (Mt.appendJ d j b).1 d2 (some (J, (Mt.appendJ d j b).2.1)) o2 ∧ Below base w w') := by
  have hj : JD w J B bl bm j d := h.one
  refine (append_any6 hj b hg hc hb).mono ?_
  rintro e w' ⟨rfl, hj', ho⟩
  obtain ⟨hs, hb⟩ := h.first (o1' := some (J, (Mt.appendJ d j b).2.1)) ho hj' rfl
  exact ⟨rfl, Lib.hid ⟨hs, hb⟩⟩
/-- The document's Append. -/
theorem append2 (h : Syn base w B bl bm g t d1 d o1 (some (Q, j, sl))) (b : List UInt8) (hb : b.length ≤ 262144) (hc : j.count ≤ j.used) (hg : j.gen < 4294967296) (ht : t + 20010 < 1000000) : Calls Tryz.prog 28 #[.pointer (some ⟨Q, 0, none⟩), .string (Mt.str b)] w fun e w' => e = .returned (.int .i64 (Mt.appendJ d j b).2.2) ∧
    Hid (Syn base w' B bl bm g (t + 20010) d1 (Mt.appendJ d j b).1 o1 (some (Q, (Mt.appendJ d j b).2.1, sl)) ∧ Below base w w') := by
  have hq : QD w Q g t j sl d := h.two
  refine (rappend_any hq b hb hc hg ht).mono ?_
  rintro e w' ⟨rfl, hq', hf⟩
  obtain ⟨hs, hb⟩ := h.second (o2' := some (Q, (Mt.appendJ d j b).2.1, sl)) hf hq' rfl
  exact ⟨rfl, Lib.hid ⟨hs, hb⟩⟩
/-- Behind a call of the program's disk alone. -/
theorem Syn.disk1 (h : Syn base w B bl bm g t d d2 o1 o2) (hd : IsDisk u B bl bm d') (ho : OnlyS [B, bl, bm] w u) (hl : d'.lasts.length = d.lasts.length) : Syn base u B bl bm g t d' d2 o1 o2 ∧ Below base w u := by
  refine h.first (o1' := o1) (ho.mono fun k hk => ?_) ?_ rfl
  · cases o1 with
    | none => exact hk
    | some p => obtain ⟨J, j⟩ := p; exact List.mem_cons_of_mem _ hk
  · cases o1 with
    | none => exact hd
    | some p => obtain ⟨J, j⟩ := p; exact JD.disk h.one hd ho hl
/-- Behind a call of the document's disk alone. -/
theorem Syn.disk2 (h : Syn base w B bl bm g t d1 d o1 o2) (hd : IsR u g t' d') (hf : Fr g w u) (hl : d'.lasts.length = d.lasts.length) : Syn base u B bl bm g t' d1 d' o1 o2 ∧ Below base w u := by
  refine h.second (o2' := o2) (hf.toO o2) ?_ rfl
  cases o2 with
  | none => exact hd
  | some p => obtain ⟨Q, j, sl⟩ := p; exact QD.disk h.two hd hf hl
end
end Go.Proofs.YtnioagojiipjlaaGreat

/-
  Plain facts: what journals and disks keep through all calls.
-/
namespace Go.Proofs.YtnioagojiipjlaaGreat
open Go.RowKit
namespace Mt
/-- A disk that is in form, and without power waits for nothing. -/
structure Calm2 (d : Dk) : Prop where
  ok : d.Ok
  calm : Calm d
theorem Calm2.write {d : Dk} (h : Calm2 d) (i : Int) (s : List UInt8) : Calm2 (d.write i s).1 := ⟨h.ok.write i s, calm_write h.calm i s⟩
theorem Calm2.flush {d : Dk} (h : Calm2 d) : Calm2 d.flush.1 := ⟨h.ok.flush, calm_flush h.calm h.ok⟩
theorem Calm2.wrS : ∀ (l : List (List UInt8)) {d : Dk} (_ : Calm2 d) (a : Nat), Calm2 (wrS d a l).1
  | [], _, h, _ => h
  | s :: r, d, h, a => by
    rw [Mt.wrS]
    split
    · exact Calm2.wrS r (h.write _ _) _
    · exact h.write _ _
theorem Calm2.wrF {d : Dk} (h : Calm2 d) (a : Nat) (l : List (List UInt8)) : Calm2 (wrF d a l).1 := by
  unfold Mt.wrF
  split
  · exact (Calm2.wrS l h a).flush
  · exact Calm2.wrS l h a
theorem wrF_len {d : Dk} (h : d.Ok) (a : Nat) (l : List (List UInt8)) : (wrF d a l).1.lasts.length = d.lasts.length := by
  unfold wrF
  split
  · have hk : ∀ (l : List (List UInt8)) (d : Dk) (_ : d.Ok) (a : Nat), (wrS d a l).1.Ok := by
      intro l
      induction l with
      | nil => exact fun d h a => h
      | cons s r ih =>
        intro d h a
        rw [wrS]
        split
        · exact ih _ (h.write _ _) _
        · exact h.write _ _
    rw [flush_len _ (hk l d h a), wrS_len]
  · exact wrS_len _ _ _
/-- A journal's numbers. -/
structure Fit (d : Dk) (o : Option Jn) : Prop where
  c : Calm2 d
  jn : ∀ j, o = some j → 4 ≤ d.lasts.length ∧ j.count ≤ j.used ∧ j.gen < 4294967296
theorem layJ_ways (d : Dk) (j : Jn) (bs : List (List UInt8)) : layJ d j bs = (d, j, 11) ∨ (j.gen + 1 ≤ 4294967295 ∧ (layJ d j bs = ((lay1 d j bs).1, { j with closed := true }, (lay1 d j bs).2) ∨ layJ d j bs = ((lay2 d j bs).1, { j with closed := true }, (lay2 d j bs).2) ∨ layJ d j bs = ((lay2 d j bs).1, ⟨j.gen + 1, 1 - j.half, 1 - j.head, bs.length, needs bs, false⟩, 0))) := by
  by_cases h : j.gen + 1 ≤ 4294967295 ∧ 2 ≤ d.room ∧ needs bs ≤ min (2 + (1 - j.half) * hsize d.lasts.length + hsize d.lasts.length) d.room - (2 + (1 - j.half) * hsize d.lasts.length) - 0
  · have hy := layJ_yes d j bs h.1 h.2.1 h.2.2
    refine .inr ⟨h.1, ?_⟩
    by_cases h1 : (lay1 d j bs).2 = 0
    · by_cases h2 : (lay2 d j bs).2 = 0
      · exact .inr (.inr (lay_good hy h1 h2))
      · exact .inr (.inl (lay_bad2 hy h1 h2))
    · exact .inl (lay_bad1 hy h1)
  · exact .inl (layJ_no d j bs h)
theorem lay1_calm {d : Dk} (h : Calm2 d) (j : Jn) (bs : List (List UInt8)) : Calm2 (lay1 d j bs).1 ∧ (lay1 d j bs).1.lasts.length = d.lasts.length := ⟨h.wrF _ _, wrF_len h.ok _ _⟩
theorem lay2_calm {d : Dk} (h : Calm2 d) (j : Jn) (bs : List (List UInt8)) : Calm2 (lay2 d j bs).1 ∧ (lay2 d j bs).1.lasts.length = d.lasts.length := by
  obtain ⟨h1, h2⟩ := lay1_calm h j bs
  exact ⟨h1.wrF _ _, (wrF_len h1.ok _ _).trans h2⟩
theorem layJ_fit {d : Dk} (h : Calm2 d) (j : Jn) (bs : List (List UInt8)) : Calm2 (layJ d j bs).1 ∧ (layJ d j bs).1.lasts.length = d.lasts.length ∧ (j.count ≤ j.used → j.gen < 4294967296 → (layJ d j bs).2.1.count ≤ (layJ d j bs).2.1.used ∧ (layJ d j bs).2.1.gen < 4294967296) := by
  have h1 := lay1_calm h j bs
  have h2 := lay2_calm h j bs
  rcases layJ_ways d j bs with e | ⟨hg, e | e | e⟩
  · rw [e]; exact ⟨h, rfl, fun a b => ⟨a, b⟩⟩
  · rw [e]; exact ⟨h1.1, h1.2, fun a b => ⟨a, b⟩⟩
  · rw [e]; exact ⟨h2.1, h2.2, fun a b => ⟨a, b⟩⟩
  · rw [e]; exact ⟨h2.1, h2.2, fun _ _ => ⟨needs_len bs, Nat.lt_of_le_of_lt hg (by decide)⟩⟩
theorem Fit.reset {d : Dk} {j : Jn} (h : Fit d (some j)) (bs : List (List UInt8)) : Fit (resetJ d j bs).1 (some (resetJ d j bs).2.1) ∧ (resetJ d j bs).1.lasts.length = d.lasts.length := by
  obtain ⟨a, b, c⟩ := h.jn j rfl
  unfold resetJ
  split
  · obtain ⟨h1, h2, h3⟩ := layJ_fit h.c j bs
    obtain ⟨h4, h5⟩ := h3 b c
    exact ⟨⟨h1, fun j' e => by cases e; exact ⟨by rw [h2]; exact a, h4, h5⟩⟩, h2⟩
  · exact ⟨h, rfl⟩
theorem Fit.append {d : Dk} {j : Jn} (h : Fit d (some j)) (b : List UInt8) : Fit (appendJ d j b).1 (some (appendJ d j b).2.1) ∧ (appendJ d j b).1.lasts.length = d.lasts.length := by
  obtain ⟨a, b0, c⟩ := h.jn j rfl
  by_cases ha : askJ j [b] = 0
  · by_cases hl : cellsN b.length ≤ j.left d
    · have h1 : Calm2 (app1 d j b).1 ∧ (app1 d j b).1.lasts.length = d.lasts.length := ⟨h.c.wrF _ _, wrF_len h.c.ok _ _⟩
      by_cases he : (app1 d j b).2 = 0
      · rw [append_good ha hl he]
        have h2 : 1 ≤ cellsN b.length := by unfold cellsN; omega
        have hcu : j.count + 1 ≤ j.used + cellsN b.length := by omega
        exact ⟨⟨h1.1, fun j' e => by cases e; exact ⟨by rw [h1.2]; exact a, hcu, c⟩⟩, h1.2⟩
      · rw [append_bad ha hl he]
        exact ⟨⟨h1.1, fun j' e => by cases e; exact ⟨by rw [h1.2]; exact a, b0, c⟩⟩, h1.2⟩
    · have e : appendJ d j b = (d, j, 11) := by unfold appendJ; rw [if_pos ha, if_neg hl]
      rw [e]; exact ⟨h, rfl⟩
  · have e : appendJ d j b = (d, j, askJ j [b]) := by unfold appendJ; rw [if_neg ha]
    rw [e]; exact ⟨h, rfl⟩
theorem Fit.open {d : Dk} (h : Calm2 d) : Fit (opD d) (opJ d) ∧ (opD d).lasts.length = d.lasts.length := by
  by_cases h4 : d.lasts.length < 4
  · obtain ⟨_, e2, _, e4⟩ := op_small h4
    rw [e2, e4]; exact ⟨⟨h, fun j e => by cases e⟩, rfl⟩
  · by_cases ho : d.off = true
    · obtain ⟨_, e2, _, e4⟩ := op_off h4 ho
      rw [e2, e4]; exact ⟨⟨h, fun j e => by cases e⟩, rfl⟩
    · obtain ⟨h1, h2, h3⟩ := layJ_fit h (findJ d).1 (findJ d).2
      have hf := findJ_ok d
      obtain ⟨h5, h6⟩ := h3 (by rw [hf.2.2.2.1, hf.2.2.2.2]; exact Nat.le_refl _) hf.2.2.1
      by_cases he : (openJ d).2.2 = 0
      · obtain ⟨_, e2, _, e4⟩ := op_good h4 ho he
        rw [e2, e4]
        exact ⟨⟨h1, fun j e => by cases e; exact ⟨by show 4 ≤ (layJ d (findJ d).1 (findJ d).2).1.lasts.length; rw [h2]; omega, h5, h6⟩⟩, h2⟩
      · obtain ⟨_, e2, _, e4⟩ := op_bad h4 ho he
        rw [e2, e4]
        exact ⟨⟨h1, fun j e => by cases e⟩, h2⟩
theorem Fit.disk {d d' : Dk} {o : Option Jn} (h : Fit d o) (hc : Calm2 d') (hl : d'.lasts.length = d.lasts.length) : Fit d' o := ⟨hc, fun j e => by rw [hl]; exact h.jn j e⟩
end Mt
end Go.Proofs.YtnioagojiipjlaaGreat

/-
  Power and the disks' own calls, on either side.
-/
namespace Go.Proofs.YtnioagojiipjlaaGreat
open Go.RowKit Go.Maps
section
variable {base : Nat} {w u : World} {B bl bm : Nat} {g : Rg} {t : Nat} {d d1 d2 : Mt.Dk} {o1 : Option (Nat × Mt.Jn)} {o2 : Option (Nat × Mt.Jn × Int)}
theorem Mt.crash_len' (d : Mt.Dk) (k : Nat) (a b : Int) : (d.crash k a b).lasts.length = d.lasts.length := Mt.loseK_length ..
theorem limit1 (h : Syn base w B bl bm g t d d2 o1 o2) (n : Int) : Calls Tryz.prog 24 #[.pointer (some ⟨B, 0, none⟩), .int .i64 n] w fun e w' => e = .returned (.tuple #[]) ∧ Syn base w' B bl bm g t (d.limit n) d2 o1 o2 ∧ Below base w w' ∧ OnlyS [B, bl, bm] w w' := by
  refine (limit_any h.one.isD n).mono ?_
  rintro e w' ⟨rfl, a, b⟩
  obtain ⟨s1, s2⟩ := h.disk1 a b rfl
  exact ⟨rfl, s1, s2, b⟩
theorem limit2 (h : Syn base w B bl bm g t d1 d o1 o2) (n : Int) (hn : n ≤ 9223372036854775807) : Calls Tryz.prog 25 #[.pointer (some ⟨g.R, 0, none⟩), .int .i64 n] w fun e w' => e = .returned (.tuple #[]) ∧ Syn base w' B bl bm g t d1 (d.limit n) o1 o2 ∧ Below base w w' := by
  refine (elimit_any h.two.isR n hn).mono ?_
  rintro e w' ⟨rfl, a, b⟩
  exact ⟨rfl, h.disk2 a b rfl⟩
theorem cut1 (h : Syn base w B bl bm g t d d2 o1 o2) (n : Int) (a : Nat) (b c : Int) (hn : n ≤ 9223372036854775807) (ha : a < 18446744073709551616) (hb : -9223372036854775808 ≤ b ∧ b ≤ 9223372036854775807) (hc : -9223372036854775808 ≤ c ∧ c ≤ 9223372036854775807) :
    Calls Tryz.prog 22 #[.pointer (some ⟨B, 0, none⟩), .int .i64 n, .agg #[.int .u64 (a : Int), .int .i64 b, .int .i64 c]] w fun e w' => e = .returned (.tuple #[]) ∧ Syn base w' B bl bm g t (d.cutAt n.toNat a b c) d2 o1 o2 ∧ Below base w w' ∧ OnlyS [B, bl, bm] w w' := by
  refine (cut_any h.one.isD n a b c hn ha hb hc).mono ?_
  rintro e w' ⟨rfl, p, q⟩
  obtain ⟨s1, s2⟩ := h.disk1 p q rfl
  exact ⟨rfl, s1, s2, q⟩
theorem cut2 (h : Syn base w B bl bm g t d1 d o1 o2) (n : Int) (a : Nat) (b c : Int) (hn : n ≤ 9223372036854775807) (ha : a < 18446744073709551616) (hb : -9223372036854775808 ≤ b ∧ b ≤ 9223372036854775807) (hc : -9223372036854775808 ≤ c ∧ c ≤ 9223372036854775807) :
    Calls Tryz.prog 23 #[.pointer (some ⟨g.R, 0, none⟩), .int .i64 n, .agg #[.int .u64 (a : Int), .int .i64 b, .int .i64 c]] w fun e w' => e = .returned (.tuple #[]) ∧ Syn base w' B bl bm g t d1 (d.cutAt n.toNat a b c) o1 o2 ∧ Below base w w' := by
  refine (ecut_any h.two.isR n a b c hn ha hb hc).mono ?_
  rintro e w' ⟨rfl, p, q⟩
  exact ⟨rfl, h.disk2 p q rfl⟩
theorem lay1 (h : Syn base w B bl bm g t d d2 o1 o2) (s : ByteArray) : Calls Tryz.prog 9 #[.pointer (some ⟨B, 0, none⟩), .string s] w fun e w' => e = .returned (.tuple #[]) ∧ Syn base w' B bl bm g t (d.lay s.data.toList) d2 o1 o2 ∧ Below base w w' := by
  refine (lay_any h.one.isD s).mono ?_
  rintro e w' ⟨rfl, a, b⟩
  exact ⟨rfl, h.disk1 a b (Mt.layL_length ..)⟩
theorem lay2 (h : Syn base w B bl bm g t d1 d o1 o2) (s : ByteArray) (hs : s.size ≤ 1000000) : Calls Tryz.prog 10 #[.pointer (some ⟨g.R, 0, none⟩), .string s] w fun e w' => e = .returned (.tuple #[]) ∧ Syn base w' B bl bm g t d1 (d.lay s.data.toList) o1 o2 ∧ Below base w w' := by
  refine (elay_any h.two.isR s hs).mono ?_
  rintro e w' ⟨rfl, a, b⟩
  exact ⟨rfl, h.disk2 a b (Mt.layL_length ..)⟩
theorem crash1 (h : Syn base w B bl bm g t d d2 o1 o2) (k : Nat) (a b : Int) (hk : k < 18446744073709551616) (ha : -9223372036854775808 ≤ a ∧ a ≤ 9223372036854775807) (hb : -9223372036854775808 ≤ b ∧ b ≤ 9223372036854775807) :
    Calls Tryz.prog 20 #[.pointer (some ⟨B, 0, none⟩), .agg #[.int .u64 (k : Int), .int .i64 a, .int .i64 b]] w fun e w' => e = .returned (.tuple #[]) ∧ Syn base w' B bl bm g t (d.crash k a b) d2 o1 o2 ∧ Below base w w' ∧ OnlyS [B, bl, bm] w w' := by
  refine (crash_any h.one.isD k a b hk ha hb).mono ?_
  rintro e w' ⟨rfl, p, q⟩
  obtain ⟨s1, s2⟩ := h.disk1 p q (Mt.crash_len' ..)
  exact ⟨rfl, s1, s2, q⟩
theorem crash2 (h : Syn base w B bl bm g t d1 d o1 o2) (hc : Mt.Calm d) (ht : t < 1000000) (k : Nat) (a b : Int) (hk : k < 18446744073709551616) (ha : -9223372036854775808 ≤ a ∧ a ≤ 9223372036854775807) (hb : -9223372036854775808 ≤ b ∧ b ≤ 9223372036854775807) :
    Calls Tryz.prog 21 #[.pointer (some ⟨g.R, 0, none⟩), .agg #[.int .u64 (k : Int), .int .i64 a, .int .i64 b]] w fun e w' => e = .returned (.tuple #[]) ∧ Syn base w' B bl bm g (t + 1) d1 (d.crash k a b) o1 o2 ∧ Below base w w' := by
  refine (ecrash_any h.two.isR hc ht k a b hk ha hb).mono ?_
  rintro e w' ⟨rfl, p, q⟩
  exact ⟨rfl, h.disk2 p q (Mt.crash_len' ..)⟩
end
end Go.Proofs.YtnioagojiipjlaaGreat
