/-
  Some texts of one proof, one behind the other.
-/
import Derived.Test.YtnioagojiipjlaaGreatPk15
import Derived.Test.YtnioagojiipjlaaGreatPk16
import Derived.Test.YtnioagojiipjlaaGreatPk22
import Derived.Test.YtnioagojiipjlaaGreatPk24
import Derived.Test.YtnioagojiipjlaaGreatPk28

/-
  The document's Append.
-/
namespace Go.Proofs.YtnioagojiipjlaaGreat
open Go.RowKit Go.Maps
theorem qcells {w : World} {Q : Nat} {g : Rg} {t : Nat} {j : Mt.Jn} {z : Bool} {sl : Int} {d : Mt.Dk} (h : QD w Q g t { j with closed := z } sl d) : w.cell? ⟨Q, 2, none⟩ = some (.int .i64 (j.half : Int)) ∧ w.cell? ⟨Q, 4, none⟩ = some (.int .i64 (j.used : Int)) ∧ w.cell? ⟨Q, 1, none⟩ = some (.int .i64 (j.gen : Int)) ∧ w.cell? ⟨Q, 5, none⟩ = some (.int .i64 (j.count : Int)) := by
  obtain ⟨-, k1, k2, -, k4, k5, -⟩ := h.jn.cells
  exact ⟨k2, k4, k1, k5⟩
/-- What the document's Append writes. -/
def Mt.app1 (d : Mt.Dk) (j : Mt.Jn) (b : List UInt8) : Mt.Dk × Int := Mt.wrF d (j.first d.lasts.length + j.used) (Mt.secsOf j.gen j.count b)
theorem Mt.append_bad {d : Mt.Dk} {j : Mt.Jn} {b : List UInt8} (ha : Mt.askJ j [b] = 0) (hl : Mt.cellsN b.length ≤ j.left d) (h : (Mt.app1 d j b).2 ≠ 0) : Mt.appendJ d j b = ((Mt.app1 d j b).1, { j with closed := true }, (Mt.app1 d j b).2) := by
  unfold Mt.appendJ
  rw [if_pos ha, if_pos hl]
  unfold Mt.app1 Mt.wrF at h ⊢
  unfold Mt.putJ
  by_cases h1 : (Mt.wrS d (j.first d.lasts.length + j.used) (Mt.secsOf j.gen j.count b)).2 = 0
  · rw [if_pos h1] at h ⊢
    rw [if_pos h1, if_pos rfl]
    unfold Mt.Jn.become
    rw [if_neg h]
  · rw [if_neg h1, if_neg h1, if_neg h1]
    unfold Mt.Jn.become
    rw [if_neg h1]
theorem Mt.append_good {d : Mt.Dk} {j : Mt.Jn} {b : List UInt8} (ha : Mt.askJ j [b] = 0) (hl : Mt.cellsN b.length ≤ j.left d) (h : (Mt.app1 d j b).2 = 0) : Mt.appendJ d j b = ((Mt.app1 d j b).1, { j with count := j.count + 1, used := j.used + Mt.cellsN b.length }, 0) := by
  unfold Mt.appendJ
  rw [if_pos ha, if_pos hl]
  unfold Mt.app1 Mt.wrF at h ⊢
  unfold Mt.putJ
  by_cases h1 : (Mt.wrS d (j.first d.lasts.length + j.used) (Mt.secsOf j.gen j.count b)).2 = 0
  · rw [if_pos h1] at h ⊢
    rw [if_pos h1, if_pos rfl]
    unfold Mt.Jn.become
    rw [if_pos h]
  · rw [if_neg h1] at h
    exact absurd h h1
section
variable {w u : World} {Q : Nat} {g : Rg} {t : Nat} {j : Mt.Jn} {sl : Int} {d : Mt.Dk}
set_option maxRecDepth 100000 in
set_option maxHeartbeats 2000000 in
theorem rappend_any (h : QD w Q g t j sl d) (b : List UInt8) (hb : b.length ≤ 262144) (hc : j.count ≤ j.used) (hg : j.gen < 4294967296) (ht : t + 20010 < 1000000) :
    Calls Tryz.prog 28 #[.pointer (some ⟨Q, 0, none⟩), .string (Mt.str b)] w fun e w' => e = .returned (.int .i64 (Mt.appendJ d j b).2.2) ∧ QD w' Q g (t + 20010) (Mt.appendJ d j b).2.1 sl (Mt.appendJ d j b).1 ∧ FrQ g Q w w' := by
  obtain ⟨c0, c1, c2, c3, c4, c5, c6⟩ := h.jn.cells
  have HQD := Lib.hid h
  cases hcl : j.closed with
  | true =>
    have HR := Lib.hid (show Mt.appendJ d j b = (d, j, 12) by unfold Mt.appendJ Mt.askJ; rw [if_neg (by rw [hcl]; simp), hcl]; rfl)
    rw [hcl] at c6
    clear hcl h
    go_enter Tryz.func28, Tryz.ntmps28
    go_wp2_with fail
    go_ret
    rw [HR.out]
    exact ⟨rfl, HQD.out.mono (by omega), FrQ.refl _ _ _⟩
  | false =>
    have hask : Mt.askJ j [b] = 0 := by unfold Mt.askJ; rw [hcl, if_neg (by simp), if_pos]; rw [List.all_eq_true]; intro x hx; rw [List.mem_singleton] at hx; subst hx; exact decide_eq_true hb
    rw [hcl] at c6
    have HCL := Lib.hid hcl
    have HASK := Lib.hid hask
    have HT := Lib.hid ht
    have HB := Lib.hid hb
    have hss : ((Mt.str b).size : Int) = (b.length : Int) := by rw [Mt.str_size]
    have hd1 : decide ((262144 : Int) < (b.length : Int)) = false := decide_eq_false (by omega)
    have hd2 : decide (262144 < b.length) = false := decide_eq_false (by omega)
    have HND := Lib.hid (fun u => rneed_yes b.length u hb)
    have HLF := Lib.hid (rleft_any h)
    have hN : 1 ≤ Mt.cellsN b.length ∧ Mt.cellsN b.length ≤ 2384 := by unfold Mt.cellsN; omega
    obtain ⟨n, hnn⟩ : ∃ n, Mt.cellsN b.length = n := ⟨_, rfl⟩
    obtain ⟨L, hL⟩ : ∃ L, j.left d = L := ⟨_, rfl⟩
    have HNN := Lib.hid hnn
    have HLL := Lib.hid hL
    rw [hnn] at HND hN
    rw [hL] at HLF
    have HN := Lib.hid hN
    have HC := Lib.hid hc
    have HG := Lib.hid hg
    by_cases hle : n ≤ L
    · have hd3 : decide ((L : Int) < (n : Int)) = false := decide_eq_false (by omega)
      have hd4 : decide (L < n) = false := decide_eq_false (by omega)
      have HLE := Lib.hid hle
      have hhf := h.half
      have hus := h.used
      have hzl := Mt.hsize_le h.dk.ok.most
      have hct := h.count
      have hlf : n ≤ min (2 + j.half * Mt.hsize d.lasts.length + Mt.hsize d.lasts.length) d.room - (2 + j.half * Mt.hsize d.lasts.length) - j.used := by
        have e : j.left d = min (2 + j.half * Mt.hsize d.lasts.length + Mt.hsize d.lasts.length) d.room - (2 + j.half * Mt.hsize d.lasts.length) - j.used := rfl
        rw [← e, hL]; exact hle
      have HSZ : Hid (∀ u, Below w.heap.size w u → Calls Tryz.prog 40 #[.pointer (some ⟨Q, 0, none⟩)] u fun e w' => e = .returned (.int .i64 (Mt.hsize d.lasts.length : Int)) ∧ u = w') := Lib.hid (fun u hu => rsize_any (h.below hu))
      have hfi : j.first d.lasts.length + j.used = 2 + j.half * Mt.hsize d.lasts.length + j.used := rfl
      have HX1 : Hid (Mt.app1 d j b = Mt.wrF d (2 + j.half * Mt.hsize d.lasts.length + j.used) (Mt.secsOf j.gen j.count b)) := Lib.hid (by unfold Mt.app1; rw [hfi])
      have HCE := Lib.hid (fun u => rcells_any (w := u) j.gen j.count b (by omega) (by omega) hb)
      have HSL := Lib.hid (show (Mt.secsOf j.gen j.count b).length = n by rw [Mt.secsOf_length, hnn])
      obtain ⟨z, hz⟩ : ∃ z, Mt.hsize d.lasts.length = z := ⟨_, rfl⟩
      rw [hz] at hzl hlf HSZ HX1
      obtain ⟨F, hF⟩ : ∃ F, 2 + j.half * z = F := ⟨_, rfl⟩
      rw [hF] at hlf HX1
      have hFl : F ≤ 4097 := by
        rcases Nat.eq_zero_or_pos j.half with e | e
        · rw [e] at hF; omega
        · have e1 : j.half = 1 := by omega
          rw [e1] at hF; omega
      obtain ⟨X, hX⟩ : ∃ X, F + j.used = X := ⟨_, rfl⟩
      rw [hX] at HX1
      have hmul : (j.half : Int) * (z : Int) = ((j.half * z : Nat) : Int) := by push_cast; rfl
      have hb1 : j.half * z ≤ 4095 := by omega
      have w1 : IntKind.i64.wrap ((j.half : Int) * (z : Int)) = (j.half : Int) * (z : Int) := IntWalk.i64_in _ (by rw [hmul]; omega)
      have hFi : (2 : Int) + (j.half : Int) * (z : Int) = (F : Int) := by rw [← hF]; push_cast; rfl
      have w2 : IntKind.i64.wrap ((2 : Int) + (j.half : Int) * (z : Int)) = (F : Int) := by rw [hFi]; exact IntWalk.i64_in _ (by clear w1; omega)
      have w3 : IntKind.i64.wrap ((F : Int) + (j.used : Int)) = (X : Int) := by rw [← hX]; exact IntWalk.i64_in _ (by clear w1 w2; omega)
      have HBN := Lib.hid (show j.used + n ≤ 4095 ∧ X ≤ 20000 by clear w1 w2 w3; omega)
      obtain ⟨A, hA⟩ : ∃ A, Mt.secsOf j.gen j.count b = A := ⟨_, rfl⟩
      rw [hA] at HCE HX1 HSL
      have HC0 : Hid (∀ u, Below w.heap.size w u → u.cell? ⟨Q, 2, none⟩ = some (.int .i64 (j.half : Int)) ∧ u.cell? ⟨Q, 4, none⟩ = some (.int .i64 (j.used : Int)) ∧ u.cell? ⟨Q, 1, none⟩ = some (.int .i64 (j.gen : Int)) ∧ u.cell? ⟨Q, 5, none⟩ = some (.int .i64 (j.count : Int))) := Lib.hid (fun u hu => by
        obtain ⟨-, k1, k2, -, k4, k5, -⟩ := (h.below hu).jn.cells
        exact ⟨k2, k4, k1, k5⟩)
      have HWR : Hid (∀ u a c, Below w.heap.size w u → IsOwn 9 1 w.heap.size u (.slice a A.length c) A.length (tcs A) → Calls Tryz.prog 51 #[.pointer (some ⟨Q, 0, none⟩), .int .i64 (X : Int), .slice a A.length c] u fun e w' => e = .returned (.int .i64 (Mt.app1 d j b).2) ∧ Hid (QD w' Q g (t + A.length + 1) { j with closed := decide ((Mt.app1 d j b).2 ≠ 0) } sl (Mt.app1 d j b).1 ∧ FrQ g Q w w')) := Lib.hid (fun u a c hu ho => by
        obtain ⟨g', hq', hts, hfq, hless⟩ := HQD.out.row hu ho
        have hw := rwrite_any hq' hts X (by have h1 := HSL.out; have h2 := HN.out; have h3 := HT.out; omega) (by have := HBN.out; omega)
        rw [← HX1.out] at hw
        refine hw.mono fun e w' ⟨e1, e2, e3⟩ => ⟨e1, Lib.hid ⟨hless _ _ _ _ _ e2, ((FrQ.refl g Q w).below hu).trans (hfq _ _ e3)⟩⟩)
      clear hcl hask hb hnn hL hN hc hg hle ht h hhf hus hzl hct hlf hfi hz hF hFl hX hmul hb1 hFi hA
      go_enter Tryz.func28, Tryz.ntmps28
      go_wp2_with fail
      with_reducible refine (HND.out _).mono ?_
      rintro e w1 ⟨rfl, rfl⟩
      go_wp2_with fail
      with_reducible refine (HLF.out).mono ?_
      rintro e wl ⟨rfl, hb2⟩
      have HK := Lib.hid (hb2.drew)
      have HB2 := Lib.hid hb2
      obtain ⟨q2, q4, q1, q5⟩ := HC0.out wl hb2
      clear hb2 c0 c1 c2 c3 c4 c5 c6
      go_upto_region 8 with fail
      go_region_held3 (fun w' => w'.cell? ⟨Q, 2, none⟩ = some (.int .i64 (j.half : Int)) ∧ w'.cell? ⟨Q, 4, none⟩ = some (.int .i64 (j.used : Int)) ∧ w'.cell? ⟨Q, 1, none⟩ = some (.int .i64 (j.gen : Int)) ∧ w'.cell? ⟨Q, 5, none⟩ = some (.int .i64 (j.count : Int)))
        (first
          | go_keep
          | exact qq)
        (first
          | (go_at_call 40; (with_reducible refine (HSZ.out _ HK.out).mono ?_); rintro e w9 ⟨rfl, rfl⟩)
          | (go_at_call 50; (with_reducible refine (HCE.out _).mono ?_); rintro e w9 ⟨a, c, rfl, ho, hb⟩; have HO := Lib.hid (ho.mono (b2 := w.heap.size) HK.out.size); have HK := Lib.hid (HK.out.trans (hb.mono HK.out.size)); have qq := HC0.out _ HK.out; clear hb ho)
          | (go_at_call 51; (with_reducible refine (HWR.out _ _ _ HK.out HO.out).mono ?_); rintro e w9 ⟨rfl, HFIN⟩; have qq := qcells HFIN.out.1))
      all_goals
        clear q2 q4 q1 q5
        obtain ⟨r, E, hr⟩ : ∃ r E, Mt.app1 d j b = (r, E) := ⟨_, _, rfl⟩
        have hqd := HFIN.out.1
        have HFR := Lib.hid HFIN.out.2
        have HR := Lib.hid hr
        rw [hr] at hqd ⊢
        simp only at hqd ⊢
        by_cases hE : E = 0
        · subst hE
          have hjc : ({ j with closed := decide ((0 : Int) ≠ 0) } : Mt.Jn) = j := by
            have := HCL.out
            cases j
            simp only at this
            subst this
            rfl
          rw [hjc] at hqd
          have HQ5 := Lib.hid hqd
          have HGOOD := Lib.hid (Mt.append_good HASK.out (by rw [HNN.out, HLL.out]; exact HLE.out) (by rw [hr]))
          obtain ⟨k0, k1, k2, k3, k4, k5, k6⟩ := hqd.jn.cells
          have p4 := frozen_of_row _ Q 4 _ _ hqd.jn
          have p5 := frozen_of_row _ Q 5 _ _ hqd.jn
          have v1 : wrap64 ((j.used : Int) + (n : Int)) = ((j.used + n : Nat) : Int) := by have := HBN.out; clear w1 w2 w3; simp only [wrap64]; omega
          have v2 : wrap64 ((j.count : Int) + 1) = ((j.count + 1 : Nat) : Int) := by have := HQD.out.count; clear w1 w2 w3 v1; simp only [wrap64]; omega
          have V1 := Lib.hid v1
          have V2 := Lib.hid v2
          clear hqd hr hjc
          go_wp2_with fail
          go_ret
          rw [HGOOD.out, HR.out, HNN.out]
          have hcu := HC.out
          have hbn := HBN.out
          have hn1 := HN.out.1
          have u1 := HQ5.out.set 4 (.int .i64 ((j.used + n : Nat) : Int)) (n := ⟨j.gen, j.half, j.head, j.count, j.used + n, j.closed⟩) (sl' := sl) rfl HQD.out.half HQD.out.head HQD.out.gen (by show j.used + n ≤ 8192; omega) HQD.out.count HQD.out.slot
          have u2 := u1.set 5 (.int .i64 ((j.count + 1 : Nat) : Int)) (n := ⟨j.gen, j.half, j.head, j.count + 1, j.used + n, j.closed⟩) (sl' := sl) rfl HQD.out.half HQD.out.head HQD.out.gen (by show j.used + n ≤ 8192; omega) (by show j.count + 1 ≤ 8192; omega) HQD.out.slot
          have hle : t + A.length + 1 ≤ t + 20010 := by have h1 := HSL.out; have h2 := HN.out; omega
          refine ⟨rfl, ?_, ?_⟩
          · have u3 := u2.mono hle
            first
              | exact u3
              | (rw [V1.out, V2.out]; exact u3)
          · exact (HFR.out.set 4 _).set 5 _
        · have x1 : (E == 0) = false := by simpa using hE
          have x2 : (E != 0) = true := by simpa using hE
          have HBAD := Lib.hid (Mt.append_bad HASK.out (by rw [HNN.out, HLL.out]; exact HLE.out) (by rw [hr]; exact hE))
          have HQ5 := Lib.hid hqd
          have HNE := Lib.hid hE
          clear hqd hr hE
          go_wp2_with fail
          go_ret
          rw [HBAD.out, HR.out]
          refine ⟨rfl, ?_, HFR.out⟩
          have h1 := HQ5.out.mono (t' := t + 20010) (by have h1 := HSL.out; have h2 := HN.out; omega)
          rw [show decide (E ≠ 0) = true from decide_eq_true HNE.out] at h1
          exact h1
    · have hd3 : decide ((L : Int) < (n : Int)) = true := decide_eq_true (by omega)
      have hd4 : decide (L < n) = true := decide_eq_true (by omega)
      have HR := Lib.hid (show Mt.appendJ d j b = (d, j, 11) by unfold Mt.appendJ; rw [if_pos hask, if_neg (by rw [hnn, hL]; exact hle)])
      clear hcl hask hb hnn hL hN hc hg hle ht h
      go_enter Tryz.func28, Tryz.ntmps28
      go_wp2_with fail
      with_reducible refine (HND.out _).mono ?_
      rintro e w1 ⟨rfl, rfl⟩
      go_wp2_with fail
      with_reducible refine (HLF.out).mono ?_
      rintro e w2 ⟨rfl, hb2⟩
      have HB2 := Lib.hid hb2
      clear hb2
      go_wp2_with fail
      go_ret
      rw [HR.out]
      exact ⟨rfl, (HQD.out.below HB2.out).mono (by omega), (FrQ.refl _ _ _).below HB2.out⟩
end
end Go.Proofs.YtnioagojiipjlaaGreat

/-
  The program's disk and the document's, side by side: one act of both.
-/
namespace Go.Proofs.YtnioagojiipjlaaGreat
open Go.RowKit Go.Maps

theorem Mt.calm_on (d : Mt.Dk) : Mt.Calm d.on := fun h => by cases h
theorem Mt.calm_crash (d : Mt.Dk) (k : Nat) (a b : Int) : Mt.Calm (d.crash k a b) := fun h => by cases h
theorem Mt.calm_limit {d : Mt.Dk} (h : Mt.Calm d) (n : Int) : Mt.Calm (d.limit n) := h
theorem Mt.calm_cut {d : Mt.Dk} (h : Mt.Calm d) (n k : Nat) (a b : Int) : Mt.Calm (d.cutAt n k a b) := h
theorem Mt.calm_lay (d : Mt.Dk) (s : List UInt8) : Mt.Calm (d.lay s) := fun _ => by
  unfold Mt.Dk.lay
  show Mt.noWaits _ = Mt.noWaits (Mt.layL _ _).length
  rw [Mt.layL_length]
theorem Mt.calm_new (n : Nat) : Mt.Calm (Mt.Dk.new n) := fun h => by cases h
theorem Mt.calm_count {d : Mt.Dk} (h : Mt.Calm d) : Mt.Calm d.count.1 := by
  unfold Mt.Dk.count
  split
  · exact h
  · split
    · intro _
      show Mt.noWaits d.lasts.length = Mt.noWaits (Mt.loseAll _ _ _ _ _).length
      unfold Mt.loseAll
      rw [Mt.loseK_length]
    · exact h
theorem Mt.calm_flush {d : Mt.Dk} (h : Mt.Calm d) (ho : d.Ok) : Mt.Calm d.flush.1 := by
  unfold Mt.Dk.flush
  split
  · exact h
  · split
    · intro _
      show Mt.noWaits d.count.1.lasts.length = Mt.noWaits (Mt.over _ _).length
      rw [Mt.over_length _ _ ho.count.len]
    · exact Mt.calm_count h
theorem Mt.calm_write {d : Mt.Dk} (h : Mt.Calm d) (i : Int) (s : List UInt8) : Mt.Calm (d.write i s).1 := by
  unfold Mt.Dk.write
  split
  · rename_i ha
    have hoff := (Mt.ask_yes ha).1
    split
    · split
      · refine Mt.calm_count ?_
        intro hx
        have : d.off = true := hx
        rw [hoff] at this; cases this
      · exact h
    · exact h
  · exact h

structure Both (base : Nat) (w : World) (B bl bm : Nat) (g : Rg) (t : Nat) (d : Mt.Dk) : Prop where
  one : IsDisk w B bl bm d
  two : IsR w g t d
  calm : Mt.Calm d
  lt : B < g.D ∧ bl < g.D ∧ bm < g.D
  ap : ∀ x ∈ [B, bl, bm], x ≠ g.R ∧ x ≠ g.bl ∧ x ≠ g.bw
  up : base ≤ B ∧ base ≤ bl ∧ base ≤ bm ∧ base ≤ g.R ∧ base ≤ g.bl ∧ base ≤ g.bw ∧ base ≤ g.D
  pr : g.P = (fun _ => False)
  lo : g.bl < g.D ∧ g.bw < g.D

section
variable {base : Nat} {w u x : World} {B bl bm : Nat} {g : Rg} {t : Nat} {d d' : Mt.Dk}
theorem Both.size (h : Both base w B bl bm g t d) : base ≤ w.heap.size := Nat.le_trans h.up.2.2.2.2.2.2 h.two.size
theorem Both.below (h : Both base w B bl bm g t d) (hb : Below w.heap.size w u) : Both base u B bl bm g t d := ⟨h.one.below hb, h.two.below hb, h.calm, h.lt, h.ap, h.up, h.pr, h.lo⟩
theorem Both.alloc (h : Both base w B bl bm g t d) (o : Obj) : Both base (w.alloc o) B bl bm g t d := h.below ((Below.refl _ _).alloc (Nat.le_refl _) o)
theorem Both.drew (h : Both base w B bl bm g t d) : Both base w.drew B bl bm g t d := h.below (Below.refl _ _).drew
theorem Both.mono (h : Both base w B bl bm g t d) {t' : Nat} (ht : t ≤ t') : Both base w B bl bm g t' d := ⟨h.one, h.two.mono ht, h.calm, h.lt, h.ap, h.up, h.pr, h.lo⟩
theorem IsR.only (h : IsR w g t d) (ho : OnlyS [B, bl, bm] w u) (h1 : B < g.D ∧ bl < g.D ∧ bm < g.D) (h2 : ∀ x ∈ [B, bl, bm], x ≠ g.R ∧ x ≠ g.bl ∧ x ≠ g.bw) : IsR u g t d := by
  obtain ⟨a, b, c, e, f, h, ht⟩ := h
  refine ⟨a, b, c, e, f, h.kept ho.size fun k hk hh => ho.block k hk fun hm => ?_, ht⟩
  obtain ⟨p, q, r⟩ := h2 k hm
  rcases hh with rfl | ⟨_, rfl | rfl⟩ | hD
  · exact p rfl
  · exact q rfl
  · exact r rfl
  · simp only [List.mem_cons, List.not_mem_nil, or_false] at hm
    rcases hm with rfl | rfl | rfl <;> omega
theorem IsDisk.fr (h : IsDisk w B bl bm d) (hf : Fr g w u) (h1 : B < g.D ∧ bl < g.D ∧ bm < g.D) (h2 : ∀ x ∈ [B, bl, bm], x ≠ g.R ∧ x ≠ g.bl ∧ x ≠ g.bw) : IsDisk u B bl bm d := by
  have a := h2 B (by simp)
  have b := h2 bl (by simp)
  have c := h2 bm (by simp)
  exact h.kept (hf.block _ (.inl h1.1) h.ltB a.1 a.2.1 a.2.2) (hf.block _ (.inl h1.2.1) h.ltL b.1 b.2.1 b.2.2) (hf.block _ (.inl h1.2.2) h.ltM c.1 c.2.1 c.2.2)
theorem Fr.toBelow (hf : Fr g w u) (hs : g.D ≤ w.heap.size) (h1 : base ≤ g.R) (h2 : base ≤ g.bl) (h3 : base ≤ g.bw) (h4 : base ≤ g.D) : Below base w u :=
  ⟨hf.os, hf.tape, hf.output, hf.size, fun k hk => hf.block k (.inl (by omega)) (by omega) (by omega) (by omega) (by omega)⟩
/-- Behind a call of the program's disk. -/
theorem Both.first (h : Both base w B bl bm g t d) (ho : OnlyS [B, bl, bm] w u) : IsR u g t d ∧ Below base w u :=
  ⟨h.two.only ho h.lt h.ap, ho.toBelow (fun k hk => by
    have := h.up
    simp only [List.mem_cons, List.not_mem_nil, or_false] at hk
    rcases hk with rfl | rfl | rfl <;> omega) h.size⟩
/-- Behind a call of the document's disk. -/
theorem Both.second (h : Both base w B bl bm g t d) (hs : g.D ≤ u.heap.size) (h1 : IsDisk u B bl bm d') (hf : Fr g u x) (h2 : IsR x g (t + 1) d') (hc : Mt.Calm d') : Both base x B bl bm g (t + 1) d' ∧ Below base u x :=
  ⟨⟨h1.fr hf h.lt h.ap, h2, hc, h.lt, h.ap, h.up, h.pr, h.lo⟩, hf.toBelow hs h.up.2.2.2.1 h.up.2.2.2.2.1 h.up.2.2.2.2.2.1 h.up.2.2.2.2.2.2⟩

/-- An act as a value. -/
def actV (D I N : Int) (S : ByteArray) (K : Nat) (T A : Int) : Value := .agg #[.int .i64 D, .int .i64 I, .int .i64 N, .string S, .int .u64 (K : Int), .int .i64 T, .int .i64 A]
def DoPost (base : Nat) (w : World) (B bl bm : Nat) (g : Rg) (t : Nat) (e : Ending) (w' : World) : Prop := e = .returned (.bool true) ∧ (∃ d', Both base w' B bl bm g (t + 1) d') ∧ Below base w w'

theorem act_kept (h : Both base w B bl bm g t d) (o : Obj) : ∀ u, OnlyS [B, bl, bm] (w.alloc o) u → u.heap[w.heap.size]? = some o := fun u ho => by
  rw [ho.block _ (by simp) (fun hm => by
    have hl := h.lt
    have hs := h.two.size
    simp only [List.mem_cons, List.not_mem_nil, or_false] at hm
    rcases hm with e | e | e <;> omega)]
  exact heap_alloc_new w o
end
end Go.Proofs.YtnioagojiipjlaaGreat

/-
  Both journals over both disks, side by side.
-/
namespace Go.Proofs.YtnioagojiipjlaaGreat
open Go.RowKit Go.Maps
section
variable {base : Nat} {w u x : World} {B bl bm J Q : Nat} {g : Rg} {t t' : Nat} {d d1 d2 : Mt.Dk} {j j1 j2 : Mt.Jn} {sl : Int}
/-- The program's blocks are written: the document's disk stays. -/
theorem IsR.apart (h : IsR w g t d) {S : List Nat} (ho : OnlyS S w u) (hS : ∀ k ∈ S, (k < g.D ∨ g.P k) ∧ k ≠ g.R ∧ k ≠ g.bl ∧ k ≠ g.bw) : IsR u g t d := by
  obtain ⟨lim, most, tv, tn, tcs, h, ht⟩ := h
  have hk : ∀ k, k < w.heap.size → k ∉ S → u.heap[k]? = w.heap[k]? := fun k h1 h2 => ho.block k h1 h2
  have hR : g.R ∉ S := fun hm => (hS _ hm).2.1 rfl
  have hL : g.bl ∉ S := fun hm => (hS _ hm).2.2.1 rfl
  have hW : g.bw ∉ S := fun hm => (hS _ hm).2.2.2 rfl
  refine ⟨lim, most, tv, tn, tcs, ⟨h.ok, by rw [hk _ (lt_of_block h.row) hR]; exact h.row, fun hn => ?_, fun hn => ?_, ?_, h.ltR, h.apart, Nat.le_trans h.size ho.size, h.room, h.most, h.prot, fun b hb => Nat.lt_of_lt_of_le (h.ltP b hb) ho.size⟩, ht⟩
  · obtain ⟨cs, e1, e2⟩ := h.lasts hn
    exact ⟨cs, by rw [hk _ (lt_of_block e1) hL]; exact e1, e2⟩
  · obtain ⟨cs, e1, e2⟩ := h.waits hn
    exact ⟨cs, by rw [hk _ (lt_of_block e1) hW]; exact e1, e2⟩
  · have ho2 := h.tears
    refine ⟨ho2.1, ?_⟩
    rcases ho2.2 with h0 | ⟨gg, cap, cur, e1, e2, e3, e4⟩
    · exact .inl h0
    · have hne : gg ∉ S := by
        intro hm
        rcases (hS gg hm).1 with h5 | h5
        · omega
        · exact h.prot gg (by rw [e1]; rfl) h5
      exact .inr ⟨gg, cap, cur, e1, e2, by rw [hk _ (lt_of_block e3) hne]; exact e3, e4⟩
/-- Where all lies. -/
structure Apart (base : Nat) (B bl bm : Nat) (g : Rg) : Prop where
  lt : B < g.D ∧ bl < g.D ∧ bm < g.D
  ap : ∀ x ∈ [B, bl, bm], x ≠ g.R ∧ x ≠ g.bl ∧ x ≠ g.bw
  up : base ≤ B ∧ base ≤ bl ∧ base ≤ bm ∧ base ≤ g.R ∧ base ≤ g.bl ∧ base ≤ g.bw ∧ base ≤ g.D
/-- The program's side: its disk, and its journal, if there is one. -/
def Prog (w : World) (B bl bm : Nat) (d : Mt.Dk) : Option (Nat × Mt.Jn) → Prop
  | none => IsDisk w B bl bm d
  | some (J, j) => JD w J B bl bm j d
/-- The document's side. -/
def Docu (w : World) (g : Rg) (t : Nat) (d : Mt.Dk) : Option (Nat × Mt.Jn × Int) → Prop
  | none => IsR w g t d
  | some (Q, j, sl) => QD w Q g t j sl d
/-- Both, side by side; the journals' blocks are kept. -/
structure Syn (base : Nat) (w : World) (B bl bm : Nat) (g : Rg) (t : Nat) (d1 d2 : Mt.Dk) (o1 : Option (Nat × Mt.Jn)) (o2 : Option (Nat × Mt.Jn × Int)) : Prop where
  apart : Apart base B bl bm g
  one : Prog w B bl bm d1 o1
  two : Docu w g t d2 o2
  j1 : ∀ J j, o1 = some (J, j) → g.P J ∧ base ≤ J ∧ J ≠ g.R ∧ J ≠ g.bl ∧ J ≠ g.bw
  j2 : ∀ Q j sl, o2 = some (Q, j, sl) → base ≤ Q ∧ Q ≠ B ∧ Q ≠ bl ∧ Q ≠ bm
  ne : ∀ J j Q j' sl, o1 = some (J, j) → o2 = some (Q, j', sl) → J ≠ Q
theorem Docu.isR {o2 : Option (Nat × Mt.Jn × Int)} (h : Docu w g t d o2) : IsR w g t d := by
  cases o2 with
  | none => exact h
  | some p => obtain ⟨Q, j, sl⟩ := p; exact QD.dk h
theorem Prog.isD {o1 : Option (Nat × Mt.Jn)} (h : Prog w B bl bm d o1) : IsDisk w B bl bm d := by
  cases o1 with
  | none => exact h
  | some p => obtain ⟨J, j⟩ := p; exact JD.dk h
/-- What is written, of the program's side. -/
def progS (B bl bm : Nat) : Option (Nat × Mt.Jn) → List Nat
  | none => [B, bl, bm]
  | some (J, _) => [J, B, bl, bm]
theorem Syn.writes {o1 : Option (Nat × Mt.Jn)} {o2 : Option (Nat × Mt.Jn × Int)} (h : Syn base w B bl bm g t d1 d2 o1 o2) : ∀ k ∈ progS B bl bm o1, (k < g.D ∨ g.P k) ∧ k ≠ g.R ∧ k ≠ g.bl ∧ k ≠ g.bw := by
  intro k hk
  have h3 : k ∈ [B, bl, bm] → (k < g.D ∨ g.P k) ∧ k ≠ g.R ∧ k ≠ g.bl ∧ k ≠ g.bw := fun hm => by
    refine ⟨.inl ?_, h.apart.ap k hm⟩
    have := h.apart.lt
    simp only [List.mem_cons, List.not_mem_nil, or_false] at hm
    rcases hm with rfl | rfl | rfl <;> omega
  cases o1 with
  | none => exact h3 hk
  | some p =>
    obtain ⟨J, j⟩ := p
    rcases List.mem_cons.1 hk with rfl | hk
    · have := h.j1 _ _ rfl
      exact ⟨.inr this.1, this.2.2.1, this.2.2.2.1, this.2.2.2.2⟩
    · exact h3 hk
/-- Behind a call of the program's side. -/
theorem Syn.first {o1 o1' : Option (Nat × Mt.Jn)} {o2 : Option (Nat × Mt.Jn × Int)} {d' : Mt.Dk} (h : Syn base w B bl bm g t d1 d2 o1 o2) (ho : OnlyS (progS B bl bm o1) w u) (h1 : Prog u B bl bm d' o1') (hsame : o1'.map Prod.fst = o1.map Prod.fst) : Syn base u B bl bm g t d' d2 o1' o2 ∧ Below base w u := by
  have hw := h.writes
  have hbase : ∀ k ∈ progS B bl bm o1, base ≤ k := by
    intro k hk
    have hu := h.apart.up
    cases o1 with
    | none =>
      simp only [progS, List.mem_cons, List.not_mem_nil, or_false] at hk
      rcases hk with rfl | rfl | rfl <;> omega
    | some p =>
      obtain ⟨J, j⟩ := p
      have := h.j1 _ _ rfl
      simp only [progS, List.mem_cons, List.not_mem_nil, or_false] at hk
      rcases hk with rfl | rfl | rfl | rfl <;> omega
  have hsz := h.two.isR.size
  have hj : ∀ J j, o1' = some (J, j) → ∃ j0, o1 = some (J, j0) := fun J j e => by
    subst e
    cases o1 with
    | none => cases hsame
    | some p => obtain ⟨J0, j0⟩ := p; simp at hsame; subst hsame; exact ⟨j0, rfl⟩
  refine ⟨⟨h.apart, h1, ?_, fun J j e => ?_, h.j2, fun J j Q j' sl e1 e2 => ?_⟩, ho.toBelow hbase (by have := h.apart.up; omega)⟩
  · cases o2 with
    | none => exact h.two.isR.apart ho hw
    | some p =>
      obtain ⟨Q, jq, sl⟩ := p
      have hq : QD w Q g t jq sl d2 := h.two
      refine ⟨(ho.block Q (lt_of_block hq.jn) fun hm => ?_).trans hq.jn, hq.dk.apart ho hw, hq.kept, hq.ne, hq.four, hq.half, hq.head, hq.gen, hq.used, hq.count, hq.slot⟩
      have h2 := h.j2 _ _ _ rfl
      cases o1 with
      | none =>
        simp only [progS, List.mem_cons, List.not_mem_nil, or_false] at hm
        omega
      | some p =>
        obtain ⟨J, j⟩ := p
        have h3 := h.ne J j Q jq sl rfl rfl
        simp only [progS, List.mem_cons, List.not_mem_nil, or_false] at hm
        omega
  · obtain ⟨j0, e0⟩ := hj J j e
    exact h.j1 J j0 e0
  · obtain ⟨j0, e0⟩ := hj J j e1
    exact h.ne J j0 Q j' sl e0 e2
end
end Go.Proofs.YtnioagojiipjlaaGreat

/-
  Both journals over both disks: behind a call of the document's side; new journals.
-/
namespace Go.Proofs.YtnioagojiipjlaaGreat
open Go.RowKit Go.Maps
/-- What a call of the document's side leaves as it was. -/
def FrO (g : Rg) (w u : World) : Option (Nat × Mt.Jn × Int) → Prop
  | none => Fr g w u
  | some (Q, _, _) => FrQ g Q w u
section
variable {base : Nat} {w u x : World} {B bl bm J Q : Nat} {g : Rg} {t t' : Nat} {d d' d1 d2 : Mt.Dk} {j j1 j2 : Mt.Jn} {sl : Int} {o1 o1' : Option (Nat × Mt.Jn)} {o2 o2' : Option (Nat × Mt.Jn × Int)}
theorem FrO.block (h : FrO g w u o2) : w.heap.size ≤ u.heap.size ∧ u.os = w.os ∧ u.tape = w.tape ∧ u.output = w.output ∧ ∀ k, (k < g.D ∨ g.P k) → k < w.heap.size → k ≠ g.R → k ≠ g.bl → k ≠ g.bw → (∀ Q j sl, o2 = some (Q, j, sl) → k ≠ Q) → u.heap[k]? = w.heap[k]? := by
  cases o2 with
  | none => exact ⟨Fr.size h, Fr.os h, Fr.tape h, Fr.output h, fun k a b c d e _ => Fr.block h k a b c d e⟩
  | some p =>
    obtain ⟨Q, j, sl⟩ := p
    exact ⟨FrQ.size h, FrQ.os h, FrQ.tape h, FrQ.output h, fun k a b c d e f => FrQ.block h k a b c d e (f _ _ _ rfl)⟩
/-- A call of the disk alone. -/
theorem Fr.toO (h : Fr g w u) (o2 : Option (Nat × Mt.Jn × Int)) : FrO g w u o2 := by
  cases o2 with
  | none => exact h
  | some p => obtain ⟨Q, j, sl⟩ := p; exact h.toQ Q
theorem Syn.below (h : Syn base w B bl bm g t d1 d2 o1 o2) (hb : Below w.heap.size w u) : Syn base u B bl bm g t d1 d2 o1 o2 := by
  refine ⟨h.apart, ?_, ?_, h.j1, h.j2, h.ne⟩
  · cases o1 with
    | none => exact IsDisk.below h.one hb
    | some p => obtain ⟨J, j⟩ := p; exact JD.below h.one hb
  · cases o2 with
    | none => exact IsR.below h.two hb
    | some p => obtain ⟨Q, j, sl⟩ := p; exact QD.below h.two hb
theorem Syn.size (h : Syn base w B bl bm g t d1 d2 o1 o2) : base ≤ w.heap.size := by
  have h1 := h.two.isR.size
  have h2 := h.apart.up
  omega
theorem JD.blocks (h : JD w J B bl bm j d) : J < w.heap.size ∧ B < w.heap.size ∧ bl < w.heap.size ∧ bm < w.heap.size := h.lt
/-- Behind a call of the document's side. -/
theorem Syn.second (h : Syn base w B bl bm g t d1 d2 o1 o2) (hf : FrO g w u o2) (h2 : Docu u g t' d' o2') (hsame : o2'.map Prod.fst = o2.map Prod.fst) : Syn base u B bl bm g t' d1 d' o1 o2' ∧ Below base w u := by
  obtain ⟨hs, hos, htp, hout, hk⟩ := hf.block
  have hq : ∀ k, k ∈ [B, bl, bm] → k < w.heap.size → u.heap[k]? = w.heap[k]? := fun k hm hl => by
    have hp := h.apart.ap k hm
    have hlt := h.apart.lt
    refine hk k (.inl ?_) hl hp.1 hp.2.1 hp.2.2 (fun Q j sl e => ?_)
    · simp only [List.mem_cons, List.not_mem_nil, or_false] at hm
      rcases hm with rfl | rfl | rfl <;> omega
    · have := h.j2 _ _ _ e
      simp only [List.mem_cons, List.not_mem_nil, or_false] at hm
      omega
  have hsz := h.two.isR.size
  have hj : ∀ Q j sl, o2' = some (Q, j, sl) → ∃ j0 s0, o2 = some (Q, j0, s0) := fun Q j sl e => by
    subst e
    cases o2 with
    | none => cases hsame
    | some p => obtain ⟨Q0, j0, s0⟩ := p; simp at hsame; subst hsame; exact ⟨j0, s0, rfl⟩
  refine ⟨⟨h.apart, ?_, h2, h.j1, fun Q j sl e => ?_, fun J j Q j' sl e1 e2 => ?_⟩, ⟨hos, htp, hout, hs, fun k hb => ?_⟩⟩
  · cases o1 with
    | none =>
      have h1 : IsDisk w B bl bm d1 := h.one
      exact h1.kept (hq _ (by simp) h1.ltB) (hq _ (by simp) h1.ltL) (hq _ (by simp) h1.ltM)
    | some p =>
      obtain ⟨J, j⟩ := p
      have h1 : JD w J B bl bm j d1 := h.one
      have hJ := h.j1 _ _ rfl
      exact h1.kept (hk J (.inr hJ.1) h1.lt.1 hJ.2.2.1 hJ.2.2.2.1 hJ.2.2.2.2 (fun Q j' sl e => h.ne J j Q j' sl rfl e)) (hq _ (by simp) h1.lt.2.1) (hq _ (by simp) h1.lt.2.2.1) (hq _ (by simp) h1.lt.2.2.2)
  · obtain ⟨j0, s0, e0⟩ := hj Q j sl e
    exact h.j2 Q j0 s0 e0
  · obtain ⟨j0, s0, e0⟩ := hj Q j' sl e2
    exact h.ne J j Q j0 s0 e1 e0
  · have hu := h.apart.up
    refine hk k (.inl (by omega)) (by omega) (by omega) (by omega) (by omega) (fun Q j sl e => ?_)
    have := h.j2 _ _ _ e
    omega
/-- More blocks are kept. -/
def Rg.plus (g : Rg) (P : Nat → Prop) : Rg := ⟨g.R, g.bl, g.bw, g.D, g.cl, g.cw, fun k => g.P k ∨ P k⟩
/-- The program's side wrote, and made blocks that are to be kept from now on. -/
theorem IsR.apartPlus {P : Nat → Prop} (h : IsR w g t d) {S : List Nat} (ho : OnlyS S w u) (hS : ∀ k ∈ S, (k < g.D ∨ g.P k) ∧ k ≠ g.R ∧ k ≠ g.bl ∧ k ≠ g.bw) (hP : ∀ k, P k → w.heap.size ≤ k ∧ k < u.heap.size) : IsR u (g.plus P) t d := by
  obtain ⟨lim, most, tv, tn, tcs, hd, ht⟩ := h
  have hu : IsR u g t d := IsR.apart ⟨lim, most, tv, tn, tcs, hd, ht⟩ ho hS
  have hk : ∀ k, k < w.heap.size → k ∉ S → u.heap[k]? = w.heap[k]? := fun k h1 h2 => ho.block k h1 h2
  have hR : g.R ∉ S := fun hm => (hS _ hm).2.1 rfl
  have hL : g.bl ∉ S := fun hm => (hS _ hm).2.2.1 rfl
  have hW : g.bw ∉ S := fun hm => (hS _ hm).2.2.2 rfl
  refine ⟨lim, most, tv, tn, tcs, ⟨hd.ok, by show u.heap[g.R]? = _; rw [hk _ (lt_of_block hd.row) hR]; exact hd.row, fun hn => ?_, fun hn => ?_, ?_, hd.ltR, hd.apart, Nat.le_trans hd.size ho.size, hd.room, hd.most, fun k e hp => ?_, fun b hb => ?_⟩, ht⟩
  · obtain ⟨cs, e1, e2⟩ := hd.lasts hn
    exact ⟨cs, by show u.heap[g.bl]? = _; rw [hk _ (lt_of_block e1) hL]; exact e1, e2⟩
  · obtain ⟨cs, e1, e2⟩ := hd.waits hn
    exact ⟨cs, by show u.heap[g.bw]? = _; rw [hk _ (lt_of_block e1) hW]; exact e1, e2⟩
  · have ho2 := hd.tears
    refine ⟨ho2.1, ?_⟩
    rcases ho2.2 with h0 | ⟨gg, cap, cur, e1, e2, e3, e4⟩
    · exact .inl h0
    · have hne : gg ∉ S := by
        intro hm
        rcases (hS gg hm).1 with h5 | h5
        · omega
        · exact hd.prot gg (by rw [e1]; rfl) h5
      exact .inr ⟨gg, cap, cur, e1, e2, by rw [hk _ (lt_of_block e3) hne]; exact e3, e4⟩
  · rcases hp with hp | hp
    · exact hd.prot k e hp
    · have := (hd.tears.lt k e).2
      have := hP k hp
      omega
  · rcases hb with hb | hb
    · exact Nat.lt_of_lt_of_le (hd.ltP b hb) ho.size
    · exact (hP b hb).2
theorem Apart.more (h : Apart base B bl bm g) (k : Nat) : Apart base B bl bm (g.more k) := ⟨h.lt, h.ap, h.up⟩
theorem Apart.plus (h : Apart base B bl bm g) (P : Nat → Prop) : Apart base B bl bm (g.plus P) := ⟨h.lt, h.ap, h.up⟩
/-- Behind the program's Open: a new journal, its old one forgotten; the document's forgotten too (it is opened next). -/
theorem Syn.opened1 (h : Syn base w B bl bm g t d1 d2 o1 o2) (ho : OnlyS [B, bl, bm] w u) (h1 : JD u J B bl bm j d') (hJ : w.heap.size ≤ J) (h4 : 4 ≤ d2.lasts.length) {P : Nat → Prop} (hP : ∀ k, P k → w.heap.size ≤ k ∧ k < u.heap.size) (hPJ : P J) : Syn base u B bl bm (g.plus P) t d' d2 (some (J, j)) none ∧ Below base w u := by
  have h0 : Syn base w B bl bm g t d1 d2 none none := ⟨h.apart, h.one.isD, h.two.isR, (fun _ _ e => nomatch e), (fun _ _ _ e => nomatch e), (fun _ _ _ _ _ e => nomatch e)⟩
  have hw := h0.writes
  have hJu := h1.lt.1
  have hsz := h.two.isR.size
  obtain ⟨lim, most, tv, tn, tcs, hd, _⟩ := h.two.isR
  have hu := h.apart.up
  have hlr := hd.ltR
  have hrl := lt_of_block hd.row
  have hb : Below base w u := ho.toBelow (fun k hk => by
    simp only [List.mem_cons, List.not_mem_nil, or_false] at hk
    rcases hk with rfl | rfl | rfl <;> omega) (by omega)
  refine ⟨⟨h.apart.plus P, h1, h.two.isR.apartPlus ho hw hP, (fun J' j' e => ?_), (fun _ _ _ e => nomatch e), (fun _ _ _ _ _ _ e => nomatch e)⟩, hb⟩
  cases e
  obtain ⟨a1, a2, _⟩ := hd.apart (by omega)
  exact ⟨.inr hPJ, by omega, by show J ≠ g.R; omega, by show J ≠ g.bl; omega, by show J ≠ g.bw; omega⟩
/-- Behind the program's Open that came to nothing. -/
theorem Syn.closed1 (h : Syn base w B bl bm g t d1 d2 o1 o2) (ho : OnlyS [B, bl, bm] w u) (h1 : IsDisk u B bl bm d') : Syn base u B bl bm g t d' d2 none none ∧ Below base w u := by
  have h0 : Syn base w B bl bm g t d1 d2 none none := ⟨h.apart, h.one.isD, h.two.isR, (fun _ _ e => nomatch e), (fun _ _ _ e => nomatch e), (fun _ _ _ _ _ e => nomatch e)⟩
  exact h0.first ho (o1' := none) h1 rfl
/-- Behind the document's Open. -/
theorem Syn.opened2 (h : Syn base w B bl bm g t d1 d2 o1 none) (hf : Fr g w u) (h2 : QD u w.heap.size (g.more w.heap.size) t' j sl d') : Syn base u B bl bm (g.more w.heap.size) t' d1 d' o1 (some (w.heap.size, j, sl)) ∧ Below base w u := by
  obtain ⟨hs, hb⟩ := h.second (o2' := none) hf (t' := t') (d' := d') (h2.dk.less rfl (fun _ hp => .inl hp)) rfl
  have hB := h.one.isD
  have hsz := h.size
  refine ⟨⟨hs.apart.more _, hs.one, h2, (fun J j e => ?_), (fun Q j sl e => ?_), (fun J j Q j' sl e1 e2 => ?_)⟩, hb⟩
  · have := hs.j1 J j e
    exact ⟨.inl this.1, this.2⟩
  · cases e
    have h3 := hB.ltB
    have h4 := hB.ltL
    have h5 := hB.ltM
    exact ⟨hsz, by omega, by omega, by omega⟩
  · cases e2
    subst e1
    have h3 : JD w J B bl bm j d1 := h.one
    have := h3.lt.1
    omega
end
end Go.Proofs.YtnioagojiipjlaaGreat
