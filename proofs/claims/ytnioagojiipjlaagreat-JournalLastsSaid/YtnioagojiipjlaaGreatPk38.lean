/-
  Some texts of one proof, one behind the other.
-/
import Derived.Test.YtnioagojiipjlaaGreatPk22
import Derived.Test.YtnioagojiipjlaaGreatPk25
import Derived.Test.YtnioagojiipjlaaGreatPk35
import Derived.Test.YtnioagojiipjlaaGreatPk37
set_option linter.unusedVariables false
set_option linter.unusedSimpArgs false

/-
  The document's Append.
-/
namespace Go.Proofs.YtnioagojiipjlaaGreat
open Go.RowKit Go.Maps
theorem qcells {w : World} {Q : Nat} {g : Rg} {t : Nat} {j : Mt.Jn} {z : Bool} {sl : Int} {d : Mt.Dk} (h : QD w Q g t { j with closed := z } sl d) : w.cell? ⟨Q, 2, none⟩ = some (.int .i64 (j.half : Int)) ∧ w.cell? ⟨Q, 4, none⟩ = some (.int .i64 (j.used : Int)) ∧ w.cell? ⟨Q, 1, none⟩ = some (.int .i64 (j.gen : Int)) ∧ w.cell? ⟨Q, 5, none⟩ = some (.int .i64 (j.count : Int)) := by
  obtain ⟨-, k1, k2, -, k4, k5, -⟩ := h.jn.cells
  exact ⟨k2, k4, k1, k5⟩
/-- What the document's Append writes. -/
def Mt.app1 (d : Mt.Dk) (j : Mt.Jn) (b : List UInt8) : Mt.Dk × Int := Mt.wrF d (j.first d.lasts.length + j.used) (Mt.secsOf j.gen j.count b)
theorem Mt.append_bad {d : Mt.Dk} {j : Mt.Jn} {b : List UInt8} (ha : Mt.askJ j [b] = 0) (hl : Mt.cellsN b.length ≤ j.left d) (h : (Mt.app1 d j b).2 ≠ 0) : Mt.appendJ d j b = ((Mt.app1 d j b).1, { j with closed := true }, (Mt.app1 d j b).2) := by
  unfold Mt.appendJ
  rw [if_pos ha, if_pos hl]
  unfold Mt.app1 Mt.wrF at h ⊢
  unfold Mt.putJ
  by_cases h1 : (Mt.wrS d (j.first d.lasts.length + j.used) (Mt.secsOf j.gen j.count b)).2 = 0
  · rw [if_pos h1] at h ⊢
    rw [if_pos h1, if_pos rfl]
    unfold Mt.Jn.become
    rw [if_neg h]
  · rw [if_neg h1, if_neg h1, if_neg h1]
    unfold Mt.Jn.become
    rw [if_neg h1]
theorem Mt.append_good {d : Mt.Dk} {j : Mt.Jn} {b : List UInt8} (ha : Mt.askJ j [b] = 0) (hl : Mt.cellsN b.length ≤ j.left d) (h : (Mt.app1 d j b).2 = 0) : Mt.appendJ d j b = ((Mt.app1 d j b).1, { j with count := j.count + 1, used := j.used + Mt.cellsN b.length }, 0) := by
  unfold Mt.appendJ
  rw [if_pos ha, if_pos hl]
  unfold Mt.app1 Mt.wrF at h ⊢
  unfold Mt.putJ
  by_cases h1 : (Mt.wrS d (j.first d.lasts.length + j.used) (Mt.secsOf j.gen j.count b)).2 = 0
  · rw [if_pos h1] at h ⊢
    rw [if_pos h1, if_pos rfl]
    unfold Mt.Jn.become
    rw [if_pos h]
  · rw [if_neg h1] at h
    exact absurd h h1
section
variable {w u : World} {Q : Nat} {g : Rg} {t : Nat} {j : Mt.Jn} {sl : Int} {d : Mt.Dk}
set_option maxRecDepth 100000 in
set_option maxHeartbeats 2000000 in
theorem rappend_any (h : QD w Q g t j sl d) (b : List UInt8) (hb : b.length ≤ 262144) (hc : j.count ≤ j.used) (hg : j.gen < 4294967296) (ht : t + 20010 < 1000000) :
    Calls Tryz.prog 28 #[.pointer (some ⟨Q, 0, none⟩), .string (Mt.str b)] w fun e w' => e = .returned (.int .i64 (Mt.appendJ d j b).2.2) ∧ QD w' Q g (t + 20010) (Mt.appendJ d j b).2.1 sl (Mt.appendJ d j b).1 ∧ FrQ g Q w w' := by
  obtain ⟨c0, c1, c2, c3, c4, c5, c6⟩ := h.jn.cells
  have HQD := Lib.hid h
  cases hcl : j.closed with
  | true =>
    have HR := Lib.hid (show Mt.appendJ d j b = (d, j, 12) by unfold Mt.appendJ Mt.askJ; rw [if_neg (by rw [hcl]; simp), hcl]; rfl)
    rw [hcl] at c6
    clear hcl h
    go_enter Tryz.func28, Tryz.ntmps28
    go_wp2_with fail
    go_ret
    rw [HR.out]
    exact ⟨rfl, HQD.out.mono (by omega), FrQ.refl _ _ _⟩
  | false =>
    have hask : Mt.askJ j [b] = 0 := by unfold Mt.askJ; rw [hcl, if_neg (by simp), if_pos]; rw [List.all_eq_true]; intro x hx; rw [List.mem_singleton] at hx; subst hx; exact decide_eq_true hb
    rw [hcl] at c6
    have HCL := Lib.hid hcl
    have HASK := Lib.hid hask
    have HT := Lib.hid ht
    have HB := Lib.hid hb
    have hss : ((Mt.str b).size : Int) = (b.length : Int) := by rw [Mt.str_size]
    have hd1 : decide ((262144 : Int) < (b.length : Int)) = false := decide_eq_false (by omega)
    have hd2 : decide (262144 < b.length) = false := decide_eq_false (by omega)
    have HND := Lib.hid (fun u => rneed_yes b.length u hb)
    have HLF := Lib.hid (rleft_any h)
    have hN : 1 ≤ Mt.cellsN b.length ∧ Mt.cellsN b.length ≤ 2384 := by unfold Mt.cellsN; omega
    obtain ⟨n, hnn⟩ : ∃ n, Mt.cellsN b.length = n := ⟨_, rfl⟩
    obtain ⟨L, hL⟩ : ∃ L, j.left d = L := ⟨_, rfl⟩
    have HNN := Lib.hid hnn
    have HLL := Lib.hid hL
    rw [hnn] at HND hN
    rw [hL] at HLF
    have HN := Lib.hid hN
    have HC := Lib.hid hc
    have HG := Lib.hid hg
    by_cases hle : n ≤ L
    · have hd3 : decide ((L : Int) < (n : Int)) = false := decide_eq_false (by omega)
      have hd4 : decide (L < n) = false := decide_eq_false (by omega)
      have HLE := Lib.hid hle
      have hhf := h.half
      have hus := h.used
      have hzl := Mt.hsize_le h.dk.ok.most
      have hct := h.count
      have hlf : n ≤ min (2 + j.half * Mt.hsize d.lasts.length + Mt.hsize d.lasts.length) d.room - (2 + j.half * Mt.hsize d.lasts.length) - j.used := by
        have e : j.left d = min (2 + j.half * Mt.hsize d.lasts.length + Mt.hsize d.lasts.length) d.room - (2 + j.half * Mt.hsize d.lasts.length) - j.used := rfl
        rw [← e, hL]; exact hle
      have HSZ : Hid (∀ u, Below w.heap.size w u → Calls Tryz.prog 40 #[.pointer (some ⟨Q, 0, none⟩)] u fun e w' => e = .returned (.int .i64 (Mt.hsize d.lasts.length : Int)) ∧ u = w') := Lib.hid (fun u hu => rsize_any (h.below hu))
      have hfi : j.first d.lasts.length + j.used = 2 + j.half * Mt.hsize d.lasts.length + j.used := rfl
      have HX1 : Hid (Mt.app1 d j b = Mt.wrF d (2 + j.half * Mt.hsize d.lasts.length + j.used) (Mt.secsOf j.gen j.count b)) := Lib.hid (by unfold Mt.app1; rw [hfi])
      have HCE := Lib.hid (fun u => rcells_any (w := u) j.gen j.count b (by omega) (by omega) hb)
      have HSL := Lib.hid (show (Mt.secsOf j.gen j.count b).length = n by rw [Mt.secsOf_length, hnn])
      obtain ⟨z, hz⟩ : ∃ z, Mt.hsize d.lasts.length = z := ⟨_, rfl⟩
      rw [hz] at hzl hlf HSZ HX1
      obtain ⟨F, hF⟩ : ∃ F, 2 + j.half * z = F := ⟨_, rfl⟩
      rw [hF] at hlf HX1
      have hFl : F ≤ 4097 := by
        rcases Nat.eq_zero_or_pos j.half with e | e
        · rw [e] at hF; omega
        · have e1 : j.half = 1 := by omega
          rw [e1] at hF; omega
      obtain ⟨X, hX⟩ : ∃ X, F + j.used = X := ⟨_, rfl⟩
      rw [hX] at HX1
      have hmul : (j.half : Int) * (z : Int) = ((j.half * z : Nat) : Int) := by push_cast; rfl
      have hb1 : j.half * z ≤ 4095 := by omega
      have w1 : IntKind.i64.wrap ((j.half : Int) * (z : Int)) = (j.half : Int) * (z : Int) := IntWalk.i64_in _ (by rw [hmul]; omega)
      have hFi : (2 : Int) + (j.half : Int) * (z : Int) = (F : Int) := by rw [← hF]; push_cast; rfl
      have w2 : IntKind.i64.wrap ((2 : Int) + (j.half : Int) * (z : Int)) = (F : Int) := by rw [hFi]; exact IntWalk.i64_in _ (by clear w1; omega)
      have w3 : IntKind.i64.wrap ((F : Int) + (j.used : Int)) = (X : Int) := by rw [← hX]; exact IntWalk.i64_in _ (by clear w1 w2; omega)
      have HBN := Lib.hid (show j.used + n ≤ 4095 ∧ X ≤ 20000 by clear w1 w2 w3; omega)
      obtain ⟨A, hA⟩ : ∃ A, Mt.secsOf j.gen j.count b = A := ⟨_, rfl⟩
      rw [hA] at HCE HX1 HSL
      have HC0 : Hid (∀ u, Below w.heap.size w u → u.cell? ⟨Q, 2, none⟩ = some (.int .i64 (j.half : Int)) ∧ u.cell? ⟨Q, 4, none⟩ = some (.int .i64 (j.used : Int)) ∧ u.cell? ⟨Q, 1, none⟩ = some (.int .i64 (j.gen : Int)) ∧ u.cell? ⟨Q, 5, none⟩ = some (.int .i64 (j.count : Int))) := Lib.hid (fun u hu => by
        obtain ⟨-, k1, k2, -, k4, k5, -⟩ := (h.below hu).jn.cells
        exact ⟨k2, k4, k1, k5⟩)
      have HWR : Hid (∀ u a c, Below w.heap.size w u → IsOwn 9 1 w.heap.size u (.slice a A.length c) A.length (tcs A) → Calls Tryz.prog 51 #[.pointer (some ⟨Q, 0, none⟩), .int .i64 (X : Int), .slice a A.length c] u fun e w' => e = .returned (.int .i64 (Mt.app1 d j b).2) ∧ Hid (QD w' Q g (t + A.length + 1) { j with closed := decide ((Mt.app1 d j b).2 ≠ 0) } sl (Mt.app1 d j b).1 ∧ FrQ g Q w w')) := Lib.hid (fun u a c hu ho => by
        obtain ⟨g', hq', hts, hfq, hless⟩ := HQD.out.row hu ho
        have hw := rwrite_any hq' hts X (by have h1 := HSL.out; have h2 := HN.out; have h3 := HT.out; omega) (by have := HBN.out; omega)
        rw [← HX1.out] at hw
        refine hw.mono fun e w' ⟨e1, e2, e3⟩ => ⟨e1, Lib.hid ⟨hless _ _ _ _ _ e2, ((FrQ.refl g Q w).below hu).trans (hfq _ _ e3)⟩⟩)
      clear hcl hask hb hnn hL hN hc hg hle ht h hhf hus hzl hct hlf hfi hz hF hFl hX hmul hb1 hFi hA
      go_enter Tryz.func28, Tryz.ntmps28
      go_wp2_with fail
      with_reducible refine (HND.out _).mono ?_
      rintro e w1 ⟨rfl, rfl⟩
      go_wp2_with fail
      with_reducible refine (HLF.out).mono ?_
      rintro e wl ⟨rfl, hb2⟩
      have HK := Lib.hid (hb2.drew)
      have HB2 := Lib.hid hb2
      obtain ⟨q2, q4, q1, q5⟩ := HC0.out wl hb2
      clear hb2 c0 c1 c2 c3 c4 c5 c6
      go_upto_region 8 with fail
      go_region_held3 (fun w' => w'.cell? ⟨Q, 2, none⟩ = some (.int .i64 (j.half : Int)) ∧ w'.cell? ⟨Q, 4, none⟩ = some (.int .i64 (j.used : Int)) ∧ w'.cell? ⟨Q, 1, none⟩ = some (.int .i64 (j.gen : Int)) ∧ w'.cell? ⟨Q, 5, none⟩ = some (.int .i64 (j.count : Int)))
        (first
          | go_keep
          | exact qq)
        (first
          | (go_at_call 40; (with_reducible refine (HSZ.out _ HK.out).mono ?_); rintro e w9 ⟨rfl, rfl⟩)
          | (go_at_call 50; (with_reducible refine (HCE.out _).mono ?_); rintro e w9 ⟨a, c, rfl, ho, hb⟩; have HO := Lib.hid (ho.mono (b2 := w.heap.size) HK.out.size); have HK := Lib.hid (HK.out.trans (hb.mono HK.out.size)); have qq := HC0.out _ HK.out; clear hb ho)
          | (go_at_call 51; (with_reducible refine (HWR.out _ _ _ HK.out HO.out).mono ?_); rintro e w9 ⟨rfl, HFIN⟩; have qq := qcells HFIN.out.1))
      all_goals
        clear q2 q4 q1 q5
        obtain ⟨r, E, hr⟩ : ∃ r E, Mt.app1 d j b = (r, E) := ⟨_, _, rfl⟩
        have hqd := HFIN.out.1
        have HFR := Lib.hid HFIN.out.2
        have HR := Lib.hid hr
        rw [hr] at hqd ⊢
        simp only at hqd ⊢
        by_cases hE : E = 0
        · subst hE
          have hjc : ({ j with closed := decide ((0 : Int) ≠ 0) } : Mt.Jn) = j := by
            have := HCL.out
            cases j
            simp only at this
            subst this
            rfl
          rw [hjc] at hqd
          have HQ5 := Lib.hid hqd
          have HGOOD := Lib.hid (Mt.append_good HASK.out (by rw [HNN.out, HLL.out]; exact HLE.out) (by rw [hr]))
          obtain ⟨k0, k1, k2, k3, k4, k5, k6⟩ := hqd.jn.cells
          have p4 := frozen_of_row _ Q 4 _ _ hqd.jn
          have p5 := frozen_of_row _ Q 5 _ _ hqd.jn
          have v1 : wrap64 ((j.used : Int) + (n : Int)) = ((j.used + n : Nat) : Int) := by have := HBN.out; clear w1 w2 w3; simp only [wrap64]; omega
          have v2 : wrap64 ((j.count : Int) + 1) = ((j.count + 1 : Nat) : Int) := by have := HQD.out.count; clear w1 w2 w3 v1; simp only [wrap64]; omega
          have V1 := Lib.hid v1
          have V2 := Lib.hid v2
          clear hqd hr hjc
          go_wp2_with fail
          go_ret
          rw [HGOOD.out, HR.out, HNN.out]
          have hcu := HC.out
          have hbn := HBN.out
          have hn1 := HN.out.1
          have u1 := HQ5.out.set 4 (.int .i64 ((j.used + n : Nat) : Int)) (n := ⟨j.gen, j.half, j.head, j.count, j.used + n, j.closed⟩) (sl' := sl) rfl HQD.out.half HQD.out.head HQD.out.gen (by show j.used + n ≤ 8192; omega) HQD.out.count HQD.out.slot
          have u2 := u1.set 5 (.int .i64 ((j.count + 1 : Nat) : Int)) (n := ⟨j.gen, j.half, j.head, j.count + 1, j.used + n, j.closed⟩) (sl' := sl) rfl HQD.out.half HQD.out.head HQD.out.gen (by show j.used + n ≤ 8192; omega) (by show j.count + 1 ≤ 8192; omega) HQD.out.slot
          have hle : t + A.length + 1 ≤ t + 20010 := by have h1 := HSL.out; have h2 := HN.out; omega
          refine ⟨rfl, ?_, ?_⟩
          · have u3 := u2.mono hle
            first
              | exact u3
              | (rw [V1.out, V2.out]; exact u3)
          · exact (HFR.out.set 4 _).set 5 _
        · have x1 : (E == 0) = false := by simpa using hE
          have x2 : (E != 0) = true := by simpa using hE
          have HBAD := Lib.hid (Mt.append_bad HASK.out (by rw [HNN.out, HLL.out]; exact HLE.out) (by rw [hr]; exact hE))
          have HQ5 := Lib.hid hqd
          have HNE := Lib.hid hE
          clear hqd hr hE
          go_wp2_with fail
          go_ret
          rw [HBAD.out, HR.out]
          refine ⟨rfl, ?_, HFR.out⟩
          have h1 := HQ5.out.mono (t' := t + 20010) (by have h1 := HSL.out; have h2 := HN.out; omega)
          rw [show decide (E ≠ 0) = true from decide_eq_true HNE.out] at h1
          exact h1
    · have hd3 : decide ((L : Int) < (n : Int)) = true := decide_eq_true (by omega)
      have hd4 : decide (L < n) = true := decide_eq_true (by omega)
      have HR := Lib.hid (show Mt.appendJ d j b = (d, j, 11) by unfold Mt.appendJ; rw [if_pos hask, if_neg (by rw [hnn, hL]; exact hle)])
      clear hcl hask hb hnn hL hN hc hg hle ht h
      go_enter Tryz.func28, Tryz.ntmps28
      go_wp2_with fail
      with_reducible refine (HND.out _).mono ?_
      rintro e w1 ⟨rfl, rfl⟩
      go_wp2_with fail
      with_reducible refine (HLF.out).mono ?_
      rintro e w2 ⟨rfl, hb2⟩
      have HB2 := Lib.hid hb2
      clear hb2
      go_wp2_with fail
      go_ret
      rw [HR.out]
      exact ⟨rfl, (HQD.out.below HB2.out).mono (by omega), (FrQ.refl _ _ _).below HB2.out⟩
end
end Go.Proofs.YtnioagojiipjlaaGreat
