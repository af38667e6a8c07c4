/-
  Whether a filter with all that is in it may be: check, Check.
-/
import Derived.Test.YtnlbhmjgeedgpaaDoorFtM
set_option linter.unusedVariables false
set_option linter.unusedSimpArgs false
namespace Go.Proofs.YtnlbhmjgeedgpaaDoor
open Go.RowKit

theorem Mt.chkAll_cnt {p : Nat → Mt.Fl → Except Nat Nat} (hp : ∀ n f m, p n f = .ok m → m ≤ 1000) : ∀ {l : List Mt.Fl} {n m : Nat}, n ≤ 1000 → Mt.chkAll p n l = .ok m → m ≤ 1000
  | [], n, m, hn, h => by simp only [Mt.chkAll, Except.ok.injEq] at h; omega
  | f :: r, n, m, hn, h => by
    simp only [Mt.chkAll] at h
    cases hf : p n f with
    | error e => rw [hf] at h; cases h
    | ok k => rw [hf] at h; exact Mt.chkAll_cnt hp (hp _ _ _ hf) h
theorem Mt.chkF_cnt : ∀ (g n : Nat) (f : Mt.Fl) (m : Nat), Mt.chkF g n f = .ok m → m ≤ 1000
  | 0, n, f, m, h => by cases h
  | g + 1, n, f, m, h => by
    unfold Mt.chkF at h
    split at h
    · cases h
    · split at h
      · split at h
        · cases h
        · exact Mt.chkAll_cnt (Mt.chkF_cnt g) (by omega) h
      · unfold Mt.leafK at h
        split at h
        · simp only [Except.ok.injEq] at h; omega
        · cases h
theorem Mt.chkAll_err {p : Nat → Mt.Fl → Except Nat Nat} (hp : ∀ n f e, p n f = .error e → e ≠ 0) : ∀ {l : List Mt.Fl} {n e : Nat}, Mt.chkAll p n l = .error e → e ≠ 0
  | [], n, e, h => by cases h
  | f :: r, n, e, h => by
    simp only [Mt.chkAll] at h
    cases hf : p n f with
    | error k => rw [hf] at h; simp only [Except.error.injEq] at h; subst h; exact hp _ _ _ hf
    | ok k => rw [hf] at h; exact Mt.chkAll_err hp h
theorem Mt.chkF_err : ∀ (g n : Nat) (f : Mt.Fl) (e : Nat), Mt.chkF g n f = .error e → e ≠ 0
  | 0, n, f, e, h => by simp only [Mt.chkF, Except.error.injEq] at h; omega
  | g + 1, n, f, e, h => by
    unfold Mt.chkF at h
    split at h
    · simp only [Except.error.injEq] at h; omega
    · split at h
      · split at h
        · simp only [Except.error.injEq] at h; omega
        · exact Mt.chkAll_err (Mt.chkF_err g) h
      · unfold Mt.leafK at h
        split at h
        · cases h
        · rename_i h0
          simp only [Except.error.injEq] at h; subst h; exact h0
/-- A filter that has met so many. -/
def IsCk (w : World) (C n : Nat) : Prop := w.heap[C]? = some (.cells #[.int .i64 (n : Int)] 60)
/-- What check answers. -/
def ChkP (w : World) (C : Nat) (R : Except Nat Nat) (e : Ending) (w' : World) : Prop := OnlyS [C] w w' ∧ e = .returned (.int .i64 (Mt.errE R : Int)) ∧ ∀ m, R = .ok m → IsCk w' C m
theorem IsFl.open' {w : World} {ok : Nat → Prop} {h : Nat} {v : Value} {f : Mt.Fl} (hh : IsFl w ok h v f) : ∃ h', h = h' + 1 ∧ ∃ pa pc a c, v = flV f pa pc a c ∧ Mt.FlOk f ∧ IsPcA w ok pa f.pcs ∧ IsKidsF (IsFl w ok h') w ok a f.kids := by
  cases h with
  | zero => exact hh.elim
  | succ h => exact ⟨h, rfl, hh⟩
theorem IsKidsF.get {w : World} {ok : Nat → Prop} {h : Nat} {a : Option Addr} {fs : List Mt.Fl} (hk : IsKidsF (IsFl w ok h) w ok a fs) (i : Nat) (hi : i < fs.length) : ∃ b off pa pc a2 c2, a = some ⟨b, off, none⟩ ∧ ok b ∧ b < w.heap.size ∧
    (w.cell? ⟨b, off + i * 5, none⟩ = some (.int .i64 fs[i].kind) ∧ w.cell? ⟨b, off + i * 5 + 1, none⟩ = some (.string (Mt.str fs[i].attr)) ∧ w.cell? ⟨b, off + i * 5 + 2, none⟩ = some (.string (Mt.str fs[i].value)) ∧ w.cell? ⟨b, off + i * 5 + 3, none⟩ = some (.slice pa fs[i].pcs.length pc) ∧ w.cell? ⟨b, off + i * 5 + 4, none⟩ = some (.slice a2 fs[i].kids.length c2)) ∧ IsFl w ok h (flV fs[i] pa pc a2 c2) fs[i] := by
  rcases hk with hk | ⟨b, off, rfl, hb, hc⟩
  · subst hk; simp at hi
  · obtain ⟨x0, x1, x2, x3, x4, g0, g1, g2, g3, g4, hr⟩ := hc i hi
    obtain ⟨pa, pc, a2, c2, e⟩ := hr.form
    obtain ⟨rfl, rfl, rfl, rfl, rfl⟩ := flV_five e
    exact ⟨b, off, pa, pc, a2, c2, rfl, hb, World.block_lt_of_cell? w _ g0, ⟨g0, g1, g2, g3, g4⟩, hr⟩
def ChecksF (d g : Nat) : Prop := ∀ (n : Nat) (f : Mt.Fl) (v : Value) (w : World) (ok : Nat → Prop) (h C : Nat), IsFl w ok h v f → (∀ b, ok b → b ≠ C) → n ≤ 1000 → IsCk w C n →
  Calls Tryd.prog 26 #[.pointer (some ⟨C, 0, none⟩), v, .int .i64 (d : Int)] w (ChkP w C (Mt.chkF g n f))
set_option maxRecDepth 100000 in
set_option maxHeartbeats 2000000 in
theorem check10_step (d g : Nat) (hd : d + g = 65) (hf : ∀ g', g = g' + 1 → ChecksF (d + 1) g') : ChecksF d g := by
  intro n f v w ok h C hfl hC hn hck
  obtain ⟨R, hR⟩ : ∃ R, Mt.chkF g n f = R := ⟨_, rfl⟩
  rw [hR]
  have HRR := Lib.hid hR
  have HF := Lib.hid hf
  have HDG := Lib.hid hd
  have HC := Lib.hid hC
  have HCL := Lib.hid (lt_of_block hck)
  obtain ⟨h', rfl, pa, pc, a, c, rfl, hok, hpc, hkids⟩ := hfl.open'
  have HOK := Lib.hid hok
  have HPC := Lib.hid hpc
  have HK := Lib.hid hkids
  obtain ⟨kind, hkd⟩ : ∃ k, f.kind = k := ⟨_, rfl⟩
  obtain ⟨kn, hkn⟩ : ∃ k, f.kids.length = k := ⟨_, rfl⟩
  have HKD := Lib.hid hkd
  have HKN := Lib.hid hkn
  have hkb : kn ≤ 1599289640401 := by rw [← hkn]; exact hok.kids
  unfold flV
  rw [hkd, hkn]
  obtain ⟨w1, hw1⟩ : ∃ u, w.alloc (.cells #[.int .i64 kind, .string (Mt.str f.attr), .string (Mt.str f.value), .slice pa f.pcs.length pc, .slice a kn c] 25) = u := ⟨_, rfl⟩
  have hg1 : w1.heap[w.heap.size]? = some (.cells #[.int .i64 kind, .string (Mt.str f.attr), .string (Mt.str f.value), .slice pa f.pcs.length pc, .slice a kn c] 25) := by rw [← hw1]; exact heap_alloc_new w _
  have hb1 : Below w.heap.size w w1 := by rw [← hw1]; exact (Below.refl _ w).alloc (Nat.le_refl _) _
  have HG1 := Lib.hid hg1
  have HO1 : Hid (OnlyS [C] w w1) := Lib.hid (Below.onlyS hb1 (Nat.le_refl _))
  have hC1 := (hb1.block C HCL.out).trans hck
  have HC1 : Hid (IsCk w1 C n) := Lib.hid hC1
  have hcell0 : w1.cell? ⟨C, 0, none⟩ = some (.int .i64 (n : Int)) := by rw [cell_of_row _ _ _ _ _ _ hC1]; rfl
  have hfr0 : w1.frozen? ⟨C, 0, none⟩ = false := frozen_of_row _ _ _ _ _ hC1
  have hwr : (n : Int) + 1 = ((n + 1 : Nat) : Int) := by omega
  have HWR := Lib.hid hwr
  have hdle : d ≤ 65 := by omega
  clear hR hf hd hC hck hfl hok hpc hkids hkd hkn hg1 hb1 hC1 hwr
  go_enter Tryd.func26, Tryd.ntmps26
  go_upto_region 1 with fail
  clear hw1
  go_upto_region 2 with fail
  have ho2 : OnlyS [C] w1 (w1.setCell ⟨C, 0, none⟩ (.int .i64 ((n : Int) + 1))) := (OnlyS.refl [C] w1).setCell (by simp) _
  have hX2 := heap_setCell_same w1 C 0 _ 60 (.int .i64 ((n : Int) + 1)) HC1.out
  generalize w1.setCell ⟨C, 0, none⟩ (.int .i64 ((n : Int) + 1)) = w2 at *
  have HO2 := Lib.hid (HO1.out.trans ho2)
  have HG2 := Lib.hid ((ho2.block _ (lt_of_block HG1.out) (by simp; have := HCL.out; omega)).trans HG1.out)
  have HC2 : Hid (IsCk w2 C (n + 1)) := Lib.hid (by
    have h9 : w2.heap[C]? = some (.cells #[.int .i64 ((n : Int) + 1)] 60) := hX2
    rw [HWR.out] at h9; exact h9)
  have hcell2 : w2.cell? ⟨C, 0, none⟩ = some (.int .i64 ((n : Int) + 1)) := by
    have h9 : w2.heap[C]? = some (.cells #[.int .i64 ((n : Int) + 1)] 60) := hX2
    rw [cell_of_row _ _ _ _ _ _ h9]; rfl
  clear ho2 hX2 hcell0 hfr0
  have HPL := Lib.hid (fun u => place10_any (d : Int) ((n : Int) + 1) u)
  obtain ⟨z, hz⟩ : ∃ z, Mt.placeN (d : Int) ((n : Int) + 1) = z := ⟨_, rfl⟩
  rw [hz] at HPL
  go_wp2_with fail
  refine (HPL.out _).mono ?_
  rintro e w4 ⟨rfl, rfl⟩
  cases g with
  | zero =>
    have hz6 : z = 6 := by rw [← hz]; unfold Mt.placeN; rw [if_pos (by have := HDG.out; omega)]
    subst hz6
    have HN : Hid (R = .error 6) := Lib.hid (by rw [← HRR.out]; rfl)
    clear hz
    go_wp2_with fail
    go_ret
    exact ⟨HO2.out, by rw [HN.out]; rfl, fun m hm => by rw [HN.out] at hm; cases hm⟩
  | succ g =>
    by_cases h1000 : 1000 ≤ n
    · have hz9 : z = 9 := by rw [← hz]; unfold Mt.placeN; rw [if_neg (by have := HDG.out; omega), if_pos (by omega)]
      subst hz9
      have HN : Hid (R = .error 9) := Lib.hid (by rw [← HRR.out]; unfold Mt.chkF; rw [if_pos h1000])
      clear hz
      go_wp2_with fail
      go_ret
      exact ⟨HO2.out, by rw [HN.out]; rfl, fun m hm => by rw [HN.out] at hm; cases hm⟩
    · have hz0 : z = 0 := by rw [← hz]; unfold Mt.placeN; rw [if_neg (by have := HDG.out; omega), if_neg (by omega)]
      subst hz0
      have HE : Hid (R = if Mt.brN kind = true then (if kind = 2 ∧ kn ≠ 1 then .error 2 else Mt.chkAll (Mt.chkF g) (n + 1) f.kids) else Mt.leafK (n + 1) f) := Lib.hid (by rw [← HRR.out]; conv => lhs; unfold Mt.chkF; rw [if_neg h1000, HKD.out, HKN.out])
      obtain ⟨⟨x0, x1, x2, x3, x4⟩, -⟩ := box5F HG2.out
      have HBR := Lib.hid (fun u => branch10_any kind u)
      clear hz
      go_wp2_with fail
      refine (HBR.out _).mono ?_
      rintro e w5 ⟨rfl, rfl⟩
      cases hbr : Mt.brN kind with
      | false =>
        have HEL : Hid (R = Mt.leafK (n + 1) f) := Lib.hid (by rw [HE.out, if_neg (by rw [hbr]; decide)])
        have HLF : Hid (Calls Tryd.prog 42 #[.agg #[.int .i64 kind, .string (Mt.str f.attr), .string (Mt.str f.value), .slice pa f.pcs.length pc, .slice a kn c]] w2 fun e w' => e = .returned (.int .i64 (Mt.leafE f : Int)) ∧ Below w2.heap.size w2 w') := Lib.hid (by
          have := checkLeaf10_any f pa pc a c w2 (by rw [HKD.out]; exact hbr) HOK.out ((HPC.out.imp (fun _ h _ => h) (fun b hb hl => HO2.out.block b hl (by simpa using HC.out b hb))).isPcs pc)
          unfold flV at this
          rw [HKD.out, HKN.out] at this; exact this)
        clear hbr HE
        go_wp2_with fail
        refine (HLF.out).mono ?_
        rintro e w6 ⟨rfl, hb6⟩
        have HB6 := Lib.hid hb6
        clear hb6
        go_wp2_with fail
        go_ret
        refine ⟨HO2.out.then HB6.out, ?_, fun m hm => ?_⟩
        · rw [HEL.out]; unfold Mt.leafK
          by_cases h0 : Mt.leafE f = 0
          · rw [if_pos h0, h0]; rfl
          · rw [if_neg h0]; rfl
        · rw [HEL.out] at hm
          unfold Mt.leafK at hm
          split at hm
          · simp only [Except.ok.injEq] at hm
            subst hm
            exact (HB6.out.block C (lt_of_block HC2.out)).trans HC2.out
          · cases hm
      | true =>
        have HE2 : Hid (R = if kind = 2 ∧ kn ≠ 1 then .error 2 else Mt.chkAll (Mt.chkF g) (n + 1) f.kids) := Lib.hid (by rw [HE.out, if_pos hbr])
        clear hbr HE
        obtain ⟨z2, hz2⟩ : ∃ z, (kind == 2) = z := ⟨_, rfl⟩
        obtain ⟨z1, hz1⟩ : ∃ z, ((kn : Int) != 1) = z := ⟨_, rfl⟩
        by_cases hbad : z2 = true ∧ z1 = true
        · obtain ⟨rfl, rfl⟩ := hbad
          have HN : Hid (R = .error 2) := Lib.hid (by
            rw [HE2.out, if_pos]
            have e1 : kind = 2 := by simpa using hz2
            have e2 : kn ≠ 1 := by intro e; rw [e] at hz1; simp at hz1
            exact ⟨e1, e2⟩)
          go_wp2_with fail
          go_ret
          exact ⟨HO2.out, by rw [HN.out]; rfl, fun m hm => by rw [HN.out] at hm; cases hm⟩
        · have HN : Hid (Mt.chkAll (Mt.chkF g) (n + 1) (f.kids.drop 0) = R) := Lib.hid (by
            rw [HE2.out, if_neg]
            · rfl
            · rintro ⟨e1, e2⟩
              refine hbad ⟨by rw [← hz2, e1]; rfl, ?_⟩
              rw [← hz1]; simp; omega)
          have hcase : (z2 = false) ∨ (z2 = true ∧ z1 = false) := by cases z2 <;> cases z1 <;> simp_all
          clear hbad HE2
          rcases hcase with rfl | ⟨rfl, rfl⟩
          all_goals
            go_wp2_with fail
            go_loopw [45] (fun iv wr => ∃ (i m : Nat), i ≤ kn ∧ m ≤ 1000 ∧ iv = .int .i64 (i : Int) ∧ Hid (Mt.chkAll (Mt.chkF g) m (f.kids.drop i) = R) ∧ Hid (OnlyS [C] w wr) ∧ Hid (IsCk wr C m)) (fun iv _ => kn - (RowKit.intOf iv).toNat)
            case atStart => exact ⟨0, n + 1, Nat.zero_le _, by omega, rfl, HN, HO2, HC2⟩
            case round =>
              obtain ⟨i, m, hi, hm, rfl, HRI, HOI, HCI⟩ := hrel
              by_cases hlt : i < kn
              · have hil : i < f.kids.length := by rw [HKN.out]; exact hlt
                have d1 : decide ((i : Int) < (kn : Int)) = true := decide_eq_true (Int.ofNat_lt.2 hlt)
                have d2 : decide (i < kn) = true := decide_eq_true hlt
                have hdr : f.kids.drop i = f.kids[i] :: f.kids.drop (i + 1) := List.drop_eq_getElem_cons hil
                have hki := HK.out.imp (u := wr) (ok' := ok) (R' := IsFl wr ok h') (fun _ h _ => h) (fun v f hv => hv.keep (fun _ h _ => h) (fun b hb hl => HOI.out.block b hl (by simpa using HC.out b hb)) (Nat.le_refl _)) (fun b hb hl => HOI.out.block b hl (by simpa using HC.out b hb))
                obtain ⟨b, off, pa2, pc2, a2, c2, rfl, hokb, hblt, ⟨y0, y1, y2, y3, y4⟩, hkf⟩ := hki.get i hil
                obtain ⟨q, hq⟩ : ∃ q, f.kids[i] = q := ⟨_, rfl⟩
                rw [hq] at hdr y0 y1 y2 y3 y4 hkf
                have HKF := Lib.hid hkf
                have hst := HRI.out
                rw [hdr] at hst
                simp only [Mt.chkAll] at hst
                have HST := Lib.hid hst
                clear hdr hq hki hkf hst hokb hblt
                go_upto_region 12 with fail
                have hb6 := (Below.refl wr.heap.size wr).alloc (Nat.le_refl _) (.cells #[.int .i64 q.kind, .string (Mt.str q.attr), .string (Mt.str q.value), .slice pa2 q.pcs.length pc2, .slice a2 q.kids.length c2] 25)
                have h6 := heap_alloc_new wr (.cells #[.int .i64 q.kind, .string (Mt.str q.attr), .string (Mt.str q.value), .slice pa2 q.pcs.length pc2, .slice a2 q.kids.length c2] 25)
                generalize wr.alloc (.cells #[.int .i64 q.kind, .string (Mt.str q.attr), .string (Mt.str q.value), .slice pa2 q.pcs.length pc2, .slice a2 q.kids.length c2] 25) = w6 at *
                have HO6 := Lib.hid (HOI.out.then hb6)
                have HKF6 := Lib.hid (HKF.out.below hb6)
                have HC6 : Hid (IsCk w6 C m) := Lib.hid ((hb6.block _ (lt_of_block HCI.out)).trans HCI.out)
                clear hb6 y0 y1 y2 y3 y4
                obtain ⟨⟨y0, y1, y2, y3, y4⟩, -⟩ := box5F h6
                clear h6
                have HCH : Hid (Calls Tryd.prog 26 #[.pointer (some ⟨C, 0, none⟩), .agg #[.int .i64 q.kind, .string (Mt.str q.attr), .string (Mt.str q.value), .slice pa2 q.pcs.length pc2, .slice a2 q.kids.length c2], .int .i64 ((d : Int) + 1)] w6 (ChkP w6 C (Mt.chkF g m q))) := Lib.hid (by
                  have := HF.out g rfl m q _ w6 ok h' C HKF6.out HC.out hm HC6.out
                  rw [show ((d + 1 : Nat) : Int) = (d : Int) + 1 by omega] at this
                  exact this)
                go_wp2_with fail
                refine (HCH.out).mono ?_
                rintro e w7 ⟨ho7, rfl, hm7⟩
                have HO7 := Lib.hid (HO6.out.trans ho7)
                clear ho7
                cases hP : Mt.chkF g m q with
                | error e0 =>
                  have HN2 : Hid (R = .error e0) := Lib.hid (by have := HST.out; rw [hP] at this; exact this.symm)
                  have hke := Mt.chkF_err _ _ _ _ hP
                  have hne : (((e0 : Nat) : Int) != 0) = true := by simp; exact hke
                  simp only [Mt.errE]
                  clear hm7 hP hke
                  go_wp2_with fail
                  go_ret
                  exact ⟨HO7.out, by rw [HN2.out]; rfl, fun m hm => by rw [HN2.out] at hm; cases hm⟩
                | ok m2 =>
                  have HN2 : Hid (Mt.chkAll (Mt.chkF g) m2 (f.kids.drop (i + 1)) = R) := Lib.hid (by have := HST.out; rw [hP] at this; exact this)
                  have hm2 := Mt.chkF_cnt _ _ _ _ hP
                  have HC7 : Hid (IsCk w7 C m2) := Lib.hid (hm7 m2 hP)
                  simp only [Mt.errE]
                  clear hm7 hP
                  go_wp2_with fail
                  go_roundw
                  case rel => exact ⟨i + 1, m2, hlt, hm2, by go_num, HN2, HO7, HC7⟩
                  case measure => simp [RowKit.intOf]; omega
              · have d1 : decide ((i : Int) < (kn : Int)) = false := decide_eq_false (fun h => hlt (Int.ofNat_lt.1 h))
                have d2 : decide (i < kn) = false := decide_eq_false hlt
                have HN2 : Hid (R = .ok m) := Lib.hid (by rw [← HRI.out, List.drop_eq_nil_of_le (by have := HKN.out; omega)]; rfl)
                go_wp2_with fail
                go_ret
                exact ⟨HOI.out, by rw [HN2.out]; rfl, fun m' hm' => by rw [HN2.out] at hm'; simp only [Except.ok.injEq] at hm'; subst hm'; exact HCI.out⟩
theorem check10_any : ∀ (g d : Nat), d + g = 65 → ChecksF d g
  | 0, d, h => check10_step d 0 h (fun g' e => by omega)
  | g + 1, d, h => check10_step d (g + 1) h (fun g' e => by obtain rfl : g' = g := by omega
                                                            exact check10_any g' (d + 1) (by omega))
end Go.Proofs.YtnlbhmjgeedgpaaDoor
