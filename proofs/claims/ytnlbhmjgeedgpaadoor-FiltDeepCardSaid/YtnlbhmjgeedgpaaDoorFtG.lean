/-
  What reading a leaf comes to.
-/
import Derived.Test.YtnlbhmjgeedgpaaDoorFtT
set_option linter.unusedVariables false
set_option linter.unusedSimpArgs false
namespace Go.Proofs.YtnlbhmjgeedgpaaDoor
open Go.RowKit

theorem IsOwn.isPcA {w : World} {base : Nat} {a : Option Addr} {n c : Nat} {q : List Mt.Pc} (h : IsOwn 53 2 base w (.slice a n c) n (pcsC q)) (hn : n = q.length) : IsPcA w (fun b => base ≤ b) a q := by
  obtain ⟨g, hg, hr⟩ := h
  rcases Nat.eq_zero_or_pos n with h0 | h0
  · exact .inl (List.eq_nil_of_length_eq_zero (by omega))
  · obtain ⟨off, cap, he, _, hlt, hcell⟩ := hr.cell h0
    have ha : a = some ⟨g, off, none⟩ := by injection he
    refine .inr ⟨g, off, ha, hg, fun j hj => ?_⟩
    obtain ⟨h1, h2⟩ := pcsC_get q j hj
    have hl := pcsC_len q
    have k1 : j * 2 < (pcsC q).length := by omega
    have k2 : j * 2 + 1 < (pcsC q).length := by omega
    rw [List.getElem?_eq_getElem k1] at h1
    rw [List.getElem?_eq_getElem k2] at h2
    exact ⟨by rw [hcell _ k1]; exact h1, by rw [show off + j * 2 + 1 = off + (j * 2 + 1) by omega, hcell _ k2]; exact h2⟩
def Mt.cutT (d : UInt8) (l : List UInt8) : List UInt8 × List UInt8 × Bool := match Mt.cutC d l with
  | none => (l, [], false)
  | some (a, b) => (a, b, true)
theorem Mt.cutT_len (d : UInt8) (l : List UInt8) : (Mt.cutT d l).1.length ≤ l.length ∧ (Mt.cutT d l).2.1.length ≤ l.length := by
  unfold Mt.cutT
  cases h : Mt.cutC d l with
  | none => simp
  | some p =>
    obtain ⟨a, b⟩ := p
    obtain ⟨e, _⟩ := Mt.cutC_some h
    simp only [e, List.length_append, List.length_cons]
    omega
theorem cutPar (l : List UInt8) (hs : l.length ≤ 100000) (w : World) : Calls Tryd.prog 60 #[.string (Mt.str l), .string ⟨#[41]⟩] w fun e w' => e = .returned (.tuple #[.string (Mt.str (Mt.cutT 41 l).1), .string (Mt.str (Mt.cutT 41 l).2.1), .bool (Mt.cutT 41 l).2.2]) ∧ Below w.heap.size w w' := by
  refine (cutP_any (Mt.str l) w (by rw [Mt.str_size]; omega)).mono ?_
  rintro e w' ⟨he, hb⟩
  refine ⟨he.trans ?_, hb⟩
  rw [Mt.str_data]
  unfold cutPV Mt.cutT
  cases Mt.cutC 41 l <;> rfl
theorem cutEqs (l : List UInt8) (hs : l.length ≤ 100000) (w : World) : Calls Tryd.prog 60 #[.string (Mt.str l), .string ⟨#[61]⟩] w fun e w' => e = .returned (.tuple #[.string (Mt.str (Mt.cutT 61 l).1), .string (Mt.str (Mt.cutT 61 l).2.1), .bool (Mt.cutT 61 l).2.2]) ∧ Below w.heap.size w w' := by
  refine (cut_any (Mt.str l) w (by rw [Mt.str_size]; omega)).mono ?_
  rintro e w' ⟨he, hb⟩
  refine ⟨he.trans ?_, hb⟩
  rw [Mt.str_data]
  unfold cutV Mt.cutT
  rw [Mt.cutE_cutC]
  cases Mt.cutC 61 l <;> rfl
theorem Mt.kOf_len (l : List UInt8) : (Mt.kOf l).2.length ≤ l.length := by
  obtain ⟨s, h, _⟩ := Mt.kOf_spec l
  conv => rhs; rw [h]
  simp
def Mt.leafW (at' t2 : List UInt8) : Option (Int × List UInt8 × List Mt.Pc) → Except Nat (Mt.Fl × List UInt8)
  | none => .error 4
  | some (k', v, q) => .ok (.mk k' at' v q [], 41 :: t2)
theorem OnlyS.thenBelow {S : List Nat} {a b c : World} (h1 : OnlyS S a b) (h2 : Below a.heap.size b c) : OnlyS S a c :=
  ⟨h2.os.trans h1.os, h2.tape.trans h1.tape, h2.output.trans h1.output, Nat.le_trans h1.size h2.size, fun k hk hS => (h2.block k hk).trans (h1.block k hk hS)⟩
/-- A leaf, by what its text is cut into. -/
def Mt.leafT (l : List UInt8) : Except Nat (Mt.Fl × List UInt8) :=
  let t := Mt.cutT 41 l
  let u := Mt.cutT 61 t.1
  let k := Mt.kOf u.1
  if t.2.2 = false then .error 4 else if u.2.2 = false then .error 4 else if Mt.typL k.2 = false then .error 4 else
  Mt.leafW k.2 t.2.1 (Mt.assL k.1 u.2.1)
theorem Mt.leafT_eq (l : List UInt8) : Mt.leafT l = Mt.leafL l := by
  rw [← Mt.leafC_eq]
  unfold Mt.leafT Mt.leafC Mt.cutT Mt.assL
  cases h1 : Mt.cutC 41 l with
  | none => rfl
  | some p =>
    obtain ⟨t, y⟩ := p
    simp only
    cases h2 : Mt.cutC 61 t with
    | none => rfl
    | some p2 =>
      obtain ⟨left, right⟩ := p2
      simp only
      cases Mt.typL (Mt.kOf left).2 with
      | false => rfl
      | true =>
        simp only
        cases Mt.readAllF (Mt.splitF 42 right) with
        | none => rfl
        | some ps =>
          simp only
          cases Mt.flL (Mt.kOf left).1 ps <;> rfl
/-- What reading a filter answers. -/
def FiltP (w : World) (B h : Nat) (R : Mt.PR) (e : Ending) (w' : World) : Prop := OnlyS [B] w w' ∧ match R with
  | .error k => e = .returned (.tuple #[zeroF, .int .i64 (k : Int)]) ∧ k ≠ 0
  | .ok (f, m, x) => ∃ pa pc a c, e = .returned (.tuple #[flV f pa pc a c, .int .i64 0]) ∧ IsFl w' (fun b => w.heap.size ≤ b) h (flV f pa pc a c) f ∧ w'.heap[B]? = some (.cells #[.string (Mt.str x), .int .i64 (m : Int)] 46)
theorem filtP_bad {w w' : World} {B h : Nat} {R : Mt.PR} {k : Nat} (hR : R = .error k) (hk : k ≠ 0) (ho : OnlyS [B] w w') : FiltP w B h R (.returned (.tuple #[zeroF, .int .i64 (k : Int)])) w' := by
  subst hR; exact ⟨ho, rfl, hk⟩
theorem filtP_good {w w' : World} {B h : Nat} {R : Mt.PR} {f : Mt.Fl} {m : Nat} {x : List UInt8} {pa : Option Addr} {pc : Nat} {a : Option Addr} {c : Nat} (hR : R = .ok (f, m, x)) (ho : OnlyS [B] w w') (hf : IsFl w' (fun b => w.heap.size ≤ b) h (flV f pa pc a c) f) (hB : w'.heap[B]? = some (.cells #[.string (Mt.str x), .int .i64 (m : Int)] 46)) :
    FiltP w B h R (.returned (.tuple #[flV f pa pc a c, .int .i64 0])) w' := by
  subst hR; exact ⟨ho, pa, pc, a, c, rfl, hf, hB⟩
def Mt.leafR (n : Nat) (l : List UInt8) : Mt.PR := match Mt.leafL l with
  | .error e => .error e
  | .ok (f, x) => .ok (f, n, x)
set_option maxRecDepth 100000 in
set_option maxHeartbeats 1000000 in
theorem leaf10_any (l : List UInt8) (n : Nat) (hs : l.length ≤ 100000) (w : World) (B : Nat) (hB : w.heap[B]? = some (.cells #[.string (Mt.str l), .int .i64 (n : Int)] 46)) :
    Calls Tryd.prog 49 #[.pointer (some ⟨B, 0, none⟩)] w (FiltP w B 1 (Mt.leafR n l)) := by
  have hls := fun f x (h : Mt.leafL l = .ok (f, x)) => Mt.leafL_ok h
  obtain ⟨R, hR⟩ : ∃ R, Mt.leafR n l = R := ⟨_, rfl⟩
  unfold Mt.leafR at hR
  rw [← Mt.leafT_eq] at hR
  have hlT := Mt.leafT_eq l
  obtain ⟨t1, ht1⟩ : ∃ t, (Mt.cutT 41 l).1 = t := ⟨_, rfl⟩
  obtain ⟨t2, ht2⟩ : ∃ t, (Mt.cutT 41 l).2.1 = t := ⟨_, rfl⟩
  obtain ⟨zc, hzc⟩ : ∃ t, (Mt.cutT 41 l).2.2 = t := ⟨_, rfl⟩
  have HC1 := Lib.hid (cutPar l hs)
  have htl := Mt.cutT_len 41 l
  rw [ht1, ht2, hzc] at HC1
  rw [ht1, ht2] at htl
  have HC2 := Lib.hid (cutEqs t1 (by omega))
  have hul := Mt.cutT_len 61 t1
  obtain ⟨u1, hu1⟩ : ∃ t, (Mt.cutT 61 t1).1 = t := ⟨_, rfl⟩
  obtain ⟨u2, hu2⟩ : ∃ t, (Mt.cutT 61 t1).2.1 = t := ⟨_, rfl⟩
  obtain ⟨ze, hze⟩ : ∃ t, (Mt.cutT 61 t1).2.2 = t := ⟨_, rfl⟩
  rw [hu1, hu2, hze] at HC2
  rw [hu1, hu2] at hul
  have HK := Lib.hid (kindOf10_any u1 (by omega))
  obtain ⟨k, hk⟩ : ∃ t, (Mt.kOf u1).1 = t := ⟨_, rfl⟩
  obtain ⟨at', hat⟩ : ∃ t, (Mt.kOf u1).2 = t := ⟨_, rfl⟩
  have hatl := Mt.kOf_len u1
  rw [hat] at hatl
  rw [hk, hat] at HK
  have HT := Lib.hid (fun w => type_any (Mt.str at') w)
  rw [Mt.str_data] at HT
  obtain ⟨zt, hzt⟩ : ∃ t, Mt.typL at' = t := ⟨_, rfl⟩
  rw [hzt] at HT
  have HA := Lib.hid (asserted10_any k u2 (by omega))
  obtain ⟨V, hV⟩ : ∃ V, Mt.assL k u2 = V := ⟨_, rfl⟩
  rw [hV] at HA
  have hRT : Mt.leafT l = if zc = false then .error 4 else if ze = false then .error 4 else if zt = false then .error 4 else Mt.leafW at' t2 V := by
    unfold Mt.leafT
    simp only [ht1, ht2, hzc, hu1, hu2, hze, hk, hat, hzt, hV]
  have hsl : zc = true → l = t1 ++ 41 :: t2 := by
    intro hz
    rw [hz] at hzc
    unfold Mt.cutT at ht1 ht2 hzc
    cases h1 : Mt.cutC 41 l with
    | none => rw [h1] at hzc; cases hzc
    | some p =>
      obtain ⟨a, b⟩ := p
      rw [h1] at ht1 ht2
      simp only at ht1 ht2
      subst ht1 ht2
      exact (Mt.cutC_some h1).1
  rw [hRT] at hR
  have HLS : Hid (∀ f x, Mt.leafT l = .ok (f, x) → f.attr.length ≤ 32 ∧ f.value.length ≤ l.length ∧ f.pcs.length ≤ l.length ∧ (∀ q ∈ f.pcs, q.2.length ≤ l.length) ∧ f.kids = []) := Lib.hid (fun f x h => by rw [hlT] at h; exact (hls f x h).2)
  have HRT := Lib.hid hRT
  have HR := Lib.hid hR
  have HSL := Lib.hid hsl
  have HRR : Hid (Mt.leafR n l = R) := Lib.hid (by unfold Mt.leafR; rw [← hlT, hRT]; exact hR)
  rw [HRR.out]
  clear hlT hls hRT hR hsl ht1 ht2 hzc hu1 hu2 hze hk hat hzt hV HRR
  obtain ⟨w1, hw1⟩ : ∃ u, w.alloc (.cells #[.int .i64 0, .string ⟨#[]⟩, .string ⟨#[]⟩, .slice none 0 0, .slice none 0 0] 25) = u := ⟨_, rfl⟩
  have hg1 : w1.heap[w.heap.size]? = some (.cells #[.int .i64 0, .string ⟨#[]⟩, .string ⟨#[]⟩, .slice none 0 0, .slice none 0 0] 25) := by rw [← hw1]; exact heap_alloc_new w _
  have hb1 : Below w.heap.size w w1 := by rw [← hw1]; exact (Below.refl _ w).alloc (Nat.le_refl _) _
  have hBl := lt_of_block hB
  have HG1 := Lib.hid hg1
  have HB1 := Lib.hid hb1
  have HX1 := Lib.hid ((hb1.block _ hBl).trans hB)
  have HBL := Lib.hid hBl
  clear hB hb1 hg1 hBl
  go_enter Tryd.func49, Tryd.ntmps49
  go_upto_region 1 with fail
  clear hw1
  obtain ⟨⟨r0, r1⟩, k0, k1⟩ := box2F HX1.out
  go_wp2_with fail
  refine (HC1.out _).mono ?_
  rintro e w2 ⟨rfl, hb2⟩
  have HB2 := Lib.hid (HB1.out.trans (hb2.mono HB1.out.size))
  have HG2 := Lib.hid ((hb2.block _ (lt_of_block HG1.out)).trans HG1.out)
  have HX2 := Lib.hid ((hb2.block _ (lt_of_block HX1.out)).trans HX1.out)
  clear hb2 r0 r1 k0 k1 HG1 HX1 HB1
  go_wp2_with fail
  refine (HC2.out _).mono ?_
  rintro e w3 ⟨rfl, hb2⟩
  have HB3 := Lib.hid (HB2.out.trans (hb2.mono HB2.out.size))
  have HG3 := Lib.hid ((hb2.block _ (lt_of_block HG2.out)).trans HG2.out)
  have HX3 := Lib.hid ((hb2.block _ (lt_of_block HX2.out)).trans HX2.out)
  clear hb2 HG2 HX2 HB2
  go_wp2_with fail
  refine (HK.out _).mono ?_
  rintro e w4 ⟨rfl, hb2⟩
  have HB4 := Lib.hid (HB3.out.trans (hb2.mono HB3.out.size))
  have HG4 := Lib.hid ((hb2.block _ (lt_of_block HG3.out)).trans HG3.out)
  have HX4 := Lib.hid ((hb2.block _ (lt_of_block HX3.out)).trans HX3.out)
  clear hb2 HG3 HX3 HB3
  cases zc with
  | false =>
    have HN : Hid (R = .error 4) := Lib.hid HR.out.symm
    obtain ⟨⟨x0, x1, x2, x3, x4⟩, f0, f1, f2, f3, f4⟩ := box5F HG4.out
    go_wp2_with fail
    refine ret5 rfl w.heap.size _ _ _ _ _ _ rfl rfl rfl Tryd.underlying25 Tryd.szFilter HG4.out ?_
    intro w5 ho _
    exact filtP_bad HN.out (by decide) (Below.onlyS (HB4.out.trans (ho.toBelow (by simp) HB4.out.size)) (Nat.le_refl _))
  | true =>
  cases ze with
  | false =>
    have HN : Hid (R = .error 4) := Lib.hid HR.out.symm
    obtain ⟨⟨x0, x1, x2, x3, x4⟩, f0, f1, f2, f3, f4⟩ := box5F HG4.out
    go_wp2_with fail
    refine ret5 rfl w.heap.size _ _ _ _ _ _ rfl rfl rfl Tryd.underlying25 Tryd.szFilter HG4.out ?_
    intro w5 ho _
    exact filtP_bad HN.out (by decide) (Below.onlyS (HB4.out.trans (ho.toBelow (by simp) HB4.out.size)) (Nat.le_refl _))
  | true =>
  go_wp2_with fail
  refine (HT.out _).mono ?_
  rintro e w5 ⟨rfl, hb2⟩
  have HB5 := Lib.hid (HB4.out.trans (hb2.mono HB4.out.size))
  have HG5 := Lib.hid ((hb2.block _ (lt_of_block HG4.out)).trans HG4.out)
  have HX5 := Lib.hid ((hb2.block _ (lt_of_block HX4.out)).trans HX4.out)
  clear hb2 HG4 HX4 HB4
  cases zt with
  | false =>
    have HN : Hid (R = .error 4) := Lib.hid HR.out.symm
    obtain ⟨⟨x0, x1, x2, x3, x4⟩, f0, f1, f2, f3, f4⟩ := box5F HG5.out
    go_wp2_with fail
    refine ret5 rfl w.heap.size _ _ _ _ _ _ rfl rfl rfl Tryd.underlying25 Tryd.szFilter HG5.out ?_
    intro w6 ho _
    exact filtP_bad HN.out (by decide) (Below.onlyS (HB5.out.trans (ho.toBelow (by simp) HB5.out.size)) (Nat.le_refl _))
  | true =>
  go_wp2_with fail
  refine (HA.out _).mono ?_
  rintro e w6 ⟨hb2, hv⟩
  have HB6 := Lib.hid (HB5.out.trans (hb2.mono HB5.out.size))
  have HG6 := Lib.hid ((hb2.block _ (lt_of_block HG5.out)).trans HG5.out)
  have HX6 := Lib.hid ((hb2.block _ (lt_of_block HX5.out)).trans HX5.out)
  clear hb2 HX5 HB5
  cases V with
  | none =>
    obtain ⟨k9, a9, n9, c9, rfl⟩ := hv
    have HN : Hid (R = .error 4) := Lib.hid HR.out.symm
    obtain ⟨⟨x0, x1, x2, x3, x4⟩, f0, f1, f2, f3, f4⟩ := box5F HG6.out
    clear x0 x1 x2 x3 x4 f0 f1 f2 f3 f4
    go_upto_region 7 with fail
    have hb7 := (Below.refl w6.heap.size w6).alloc (Nat.le_refl _) (.cells #[.int .i64 k9, .string ⟨#[]⟩, .string ⟨#[]⟩, .slice a9 n9 c9, .slice none 0 0] 25)
    generalize w6.alloc (.cells #[.int .i64 k9, .string ⟨#[]⟩, .string ⟨#[]⟩, .slice a9 n9 c9, .slice none 0 0] 25) = w7 at *
    have HB7 := Lib.hid (HB6.out.trans (hb7.mono HB6.out.size))
    have HG7 := Lib.hid ((hb7.block _ (lt_of_block HG6.out)).trans HG6.out)
    clear hb7
    obtain ⟨⟨x0, x1, x2, x3, x4⟩, f0, f1, f2, f3, f4⟩ := box5F HG7.out
    go_wp2_with fail
    refine ret5 rfl w.heap.size _ _ _ _ _ _ rfl rfl rfl Tryd.underlying25 Tryd.szFilter HG7.out ?_
    intro w8 ho _
    exact filtP_bad HN.out (by decide) (Below.onlyS (HB7.out.trans (ho.toBelow (by simp) HB7.out.size)) (Nat.le_refl _))
  | some p =>
    obtain ⟨k', v, q⟩ := p
    obtain ⟨a9, c9, rfl, hown⟩ := hv
    have HRR : Hid (Mt.leafT l = .ok (.mk k' at' v q [], 41 :: t2)) := HRT
    have HN : Hid (R = .ok (.mk k' at' v q [], n, 41 :: t2)) := Lib.hid HR.out.symm
    have HSZ := Lib.hid (HLS.out _ _ HRR.out)
    have hll : l = t1 ++ 41 :: t2 := HSL.out trivial
    have hx9 : (Mt.str l).extract (Mt.str t1).size (Mt.str l).size = Mt.str (41 :: t2) := by
      rw [Mt.extract_drop, Mt.str_data, Mt.str_size, hll, List.drop_left]
    have hle9 : ((Mt.str t1).size : Int) ≤ ((Mt.str l).size : Int) := by rw [Mt.str_size, Mt.str_size]; omega
    have hle8 : (Mt.str t1).size ≤ (Mt.str l).size := by omega
    have hOW := Lib.hid hown
    have hL32 : Hid ((Mt.str at').size ≤ 281474976710656) := Lib.hid (by have := HSZ.out.1; rw [Mt.str_size]; exact Nat.le_trans this (by decide))
    have HCL := Lib.hid (fun u => clone_any (Mt.str at') u hL32.out)
    clear hll hown
    go_upto_region 7 with fail
    have hb7 := (Below.refl w6.heap.size w6).alloc (Nat.le_refl _) (.cells #[.int .i64 k', .string ⟨#[]⟩, .string (Mt.str v), .slice a9 q.length c9, .slice none 0 0] 25)
    have h12 := heap_alloc_new w6 (.cells #[.int .i64 k', .string ⟨#[]⟩, .string (Mt.str v), .slice a9 q.length c9, .slice none 0 0] 25)
    generalize w6.alloc (.cells #[.int .i64 k', .string ⟨#[]⟩, .string (Mt.str v), .slice a9 q.length c9, .slice none 0 0] 25) = w7 at *
    have HB7 := Lib.hid (HB6.out.trans (hb7.mono HB6.out.size))
    have HG7 := Lib.hid ((hb7.block _ (lt_of_block HG6.out)).trans HG6.out)
    have HX7 := Lib.hid ((hb7.block _ (lt_of_block HX6.out)).trans HX6.out)
    have HP6 := Lib.hid ((hOW.out.isPcA rfl).imp (ok' := fun b => w5.heap.size ≤ b ∧ b < w6.heap.size) (u := w6) (fun b h hl => ⟨h, hl⟩) (fun _ _ _ => rfl))
    have H12 := Lib.hid h12
    have HG6L := Lib.hid (lt_of_block HG6.out)
    have HG5L := Lib.hid (lt_of_block HG5.out)
    have HB76 := Lib.hid hb7
    clear hb7 h12 HG6 HX6
    obtain ⟨⟨r0, r1⟩, k0, k1⟩ := box2F HX7.out
    go_upto_region 9 with fail
    go_upto_region 10 with fail
    have ho8 : OnlyS [B] w7 (w7.setCell ⟨B, 0, none⟩ (.string (Mt.str (41 :: t2)))) := (OnlyS.refl [B] w7).setCell (by simp) _
    have hX8 := heap_setCell_same w7 B 0 _ 46 (.string (Mt.str (41 :: t2))) HX7.out
    generalize w7.setCell ⟨B, 0, none⟩ (.string (Mt.str (41 :: t2))) = w8 at *
    have HO8 := Lib.hid ho8
    have HX8 : Hid (w8.heap[B]? = some (.cells #[.string (Mt.str (41 :: t2)), .int .i64 (n : Int)] 46)) := Lib.hid hX8
    have HG8 := Lib.hid ((ho8.block _ (lt_of_block HG7.out) (by simp; have := HBL.out; omega)).trans HG7.out)
    have H128 := Lib.hid ((ho8.block _ (lt_of_block H12.out) (by simp; have h1 := HBL.out; have h2 := HB6.out.size; omega)).trans H12.out)
    clear ho8 hX8 r0 r1 k0 k1 hx9 hle9 hle8
    go_wp2_with fail
    refine (HCL.out _).mono ?_
    rintro e w9 ⟨rfl, hb9⟩
    have HB9 := Lib.hid hb9
    have HX9 := Lib.hid ((hb9.block _ (lt_of_block HX8.out)).trans HX8.out)
    have HG9 := Lib.hid ((hb9.block _ (lt_of_block HG8.out)).trans HG8.out)
    have H129 := Lib.hid ((hb9.block _ (lt_of_block H128.out)).trans H128.out)
    clear hb9
    obtain ⟨⟨y0, y1, y2, y3, y4⟩, e0, e1, e2, e3, e4⟩ := box5F H129.out
    go_upto_region 11 with fail
    have ho10 : OnlyS [w6.heap.size] w9 (w9.setCell ⟨w6.heap.size, 1, none⟩ (.string (Mt.str at'))) := (OnlyS.refl _ w9).setCell (by simp) _
    have hX10 := heap_setCell_same w9 w6.heap.size 1 _ 25 (.string (Mt.str at')) H129.out
    generalize w9.setCell ⟨w6.heap.size, 1, none⟩ (.string (Mt.str at')) = w10 at *
    have HO10 := Lib.hid ho10
    have H1210 : Hid (w10.heap[w6.heap.size]? = some (.cells #[.int .i64 k', .string (Mt.str at'), .string (Mt.str v), .slice a9 q.length c9, .slice none 0 0] 25)) := Lib.hid hX10
    have HG10 := Lib.hid ((ho10.block _ (lt_of_block HG9.out) (by simp; have h2 := HG6L.out; omega)).trans HG9.out)
    have HX10 := Lib.hid ((ho10.block _ (lt_of_block HX9.out) (by simp; have h1 := HBL.out; have h2 := HB6.out.size; omega)).trans HX9.out)
    clear ho10 hX10 y0 y1 y2 y3 y4 e0 e1 e2 e3 e4
    obtain ⟨⟨y0, y1, y2, y3, y4⟩, -⟩ := box5F H1210.out
    obtain ⟨⟨x0, x1, x2, x3, x4⟩, f0, f1, f2, f3, f4⟩ := box5F HG10.out
    go_wp2_with fail
    refine ret5 rfl w.heap.size _ _ _ _ _ _ rfl rfl rfl Tryd.underlying25 Tryd.szFilter HG10.out ?_
    intro w11 ho _
    have hs6 := HB6.out.size
    have hs5 := HG5L.out
    have hB := HBL.out
    have hbel : Below w.heap.size w8 w11 := (HB9.out.mono (Nat.le_trans HB7.out.size HO8.out.size)).trans ((HO10.out.toBelow (by simp; omega) (by have := HB9.out.size; have := HO8.out.size; have := HB7.out.size; omega)).trans (ho.toBelow (by simp) (by have := HO10.out.size; have := HB9.out.size; have := HO8.out.size; have := HB7.out.size; omega)))
    refine filtP_good (f := .mk k' at' v q []) (pa := a9) (pc := c9) (a := none) (c := 0) HN.out (((Below.onlyS HB7.out (Nat.le_refl _)).trans HO8.out).thenBelow hbel) ?_ ?_
    · refine ⟨a9, c9, none, 0, rfl, ?_, ?_, .inl rfl⟩
      · obtain ⟨z1, z2, z3, z4, z5⟩ := HSZ.out
        exact ⟨Nat.le_trans z1 (by decide), by omega, by omega, fun p hp => by have := z4 p hp; omega, by rw [z5]; simp⟩
      · refine HP6.out.imp (fun b hb _ => by omega) (fun b hb hl => ?_)
        have n1 : b ≠ B := by omega
        have n2 : b ≠ w.heap.size := by omega
        have n3 : b ≠ w6.heap.size := by omega
        have l7 : b < w7.heap.size := by have := HB76.out.size; omega
        have l8 : b < w8.heap.size := by have := HO8.out.size; omega
        have l9 : b < w9.heap.size := by have := HB9.out.size; omega
        have l10 : b < w10.heap.size := by have := HO10.out.size; omega
        rw [ho.block b l10 (by simpa using n2), HO10.out.block b l9 (by simpa using n3), HB9.out.block b l8, HO8.out.block b l7 (by simpa using n1), HB76.out.block b hl]
    · rw [ho.block B (lt_of_block HX10.out) (by simp; omega)]
      exact HX10.out
end Go.Proofs.YtnlbhmjgeedgpaaDoor
