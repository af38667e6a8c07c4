/-
  Some texts of one proof, one behind the other.
-/
import Derived.Test.YtnioagojiipjlaaGreatPk22
import Derived.Test.YtnioagojiipjlaaGreatPk25
import Derived.Test.YtnioagojiipjlaaGreatPk35
import Derived.Test.YtnioagojiipjlaaGreatPk37
set_option linter.unusedVariables false
set_option linter.unusedSimpArgs false

/-
  The document's Reset.
-/
namespace Go.Proofs.YtnioagojiipjlaaGreat
open Go.RowKit Go.Maps
theorem Mt.allSecs_take (gen : Nat) (bs : List (List UInt8)) (k : Nat) (h : k < bs.length) : Mt.allSecs gen 0 (bs.take (k + 1)) = Mt.allSecs gen 0 (bs.take k) ++ Mt.secsOf gen k (bs.getD k []) := by
  rw [List.getD_eq_getElem?_getD, List.getElem?_eq_getElem h, Option.getD_some, List.take_succ_eq_append_getElem h, Mt.allSecs_append, List.length_take, Nat.min_eq_left (by omega), Nat.zero_add]
  simp [Mt.allSecs]
theorem Mt.getD_at (bs : List (List UInt8)) (k : Nat) (h : k < bs.length) : bs.getD k [] = bs[k] := by
  rw [List.getD_eq_getElem?_getD, List.getElem?_eq_getElem h, Option.getD_some]
theorem Mt.needs_step (bs : List (List UInt8)) (k : Nat) (h : k < bs.length) : Mt.needs (bs.take (k + 1)) = Mt.needs (bs.take k) + Mt.cellsN (bs.getD k []).length := by
  rw [Mt.getD_at bs k h, List.take_succ_eq_append_getElem h, Mt.needs_append]; rfl
theorem Mt.needs_take_le (bs : List (List UInt8)) (k : Nat) : Mt.needs (bs.take k) ≤ Mt.needs bs := by
  have h := Mt.needs_append (bs.take k) (bs.drop k)
  rw [List.take_append_drop] at h
  omega
theorem Mt.layJ_yes (d : Mt.Dk) (j : Mt.Jn) (bs : List (List UInt8)) (h1 : j.gen + 1 ≤ 4294967295) (h2 : 2 ≤ d.room) (h3 : Mt.needs bs ≤ min (2 + (1 - j.half) * Mt.hsize d.lasts.length + Mt.hsize d.lasts.length) d.room - (2 + (1 - j.half) * Mt.hsize d.lasts.length) - 0) :
    Mt.layJ d j bs = ((Mt.fillJ d j.next bs).1, j.become (Mt.fillJ d j.next bs).2.1 (Mt.fillJ d j.next bs).2.2) := by
  have hh : j.next.holds d bs = true := by
    unfold Mt.Jn.holds
    rw [Bool.and_eq_true, decide_eq_true_eq, decide_eq_true_eq]
    exact ⟨h2, h3⟩
  unfold Mt.layJ
  rw [if_pos ⟨h1, hh⟩]
/-- The document's first write, and its second. -/
def Mt.lay1 (d : Mt.Dk) (j : Mt.Jn) (bs : List (List UInt8)) : Mt.Dk × Int := Mt.wrF d (j.next.first d.lasts.length) (Mt.allSecs (j.gen + 1) 0 bs)
def Mt.lay2 (d : Mt.Dk) (j : Mt.Jn) (bs : List (List UInt8)) : Mt.Dk × Int := Mt.wrF (Mt.lay1 d j bs).1 (1 - j.head) [Mt.hdSector (j.gen + 1) (1 - j.half)]
theorem Mt.refLay_eq (d : Mt.Dk) (j : Mt.Jn) (bs : List (List UInt8)) : Mt.refLay d j bs = if (Mt.lay1 d j bs).2 = 0 then Mt.lay2 d j bs else Mt.lay1 d j bs := rfl
theorem Mt.lay_bad1 {d : Mt.Dk} {j : Mt.Jn} {bs : List (List UInt8)} (h : Mt.layJ d j bs = ((Mt.fillJ d j.next bs).1, j.become (Mt.fillJ d j.next bs).2.1 (Mt.fillJ d j.next bs).2.2)) (h1 : (Mt.lay1 d j bs).2 ≠ 0) : Mt.layJ d j bs = ((Mt.lay1 d j bs).1, { j with closed := true }, (Mt.lay1 d j bs).2) := by
  obtain ⟨e1, e2, _⟩ := Mt.fillJ_ref d j bs
  rw [Mt.refLay_eq, if_neg h1] at e1 e2
  rw [h, e1, e2]
  unfold Mt.Jn.become
  rw [if_neg h1]
theorem Mt.lay_bad2 {d : Mt.Dk} {j : Mt.Jn} {bs : List (List UInt8)} (h : Mt.layJ d j bs = ((Mt.fillJ d j.next bs).1, j.become (Mt.fillJ d j.next bs).2.1 (Mt.fillJ d j.next bs).2.2)) (h1 : (Mt.lay1 d j bs).2 = 0) (h2 : (Mt.lay2 d j bs).2 ≠ 0) : Mt.layJ d j bs = ((Mt.lay2 d j bs).1, { j with closed := true }, (Mt.lay2 d j bs).2) := by
  obtain ⟨e1, e2, _⟩ := Mt.fillJ_ref d j bs
  rw [Mt.refLay_eq, if_pos h1] at e1 e2
  rw [h, e1, e2]
  unfold Mt.Jn.become
  rw [if_neg h2]
theorem Mt.lay_good {d : Mt.Dk} {j : Mt.Jn} {bs : List (List UInt8)} (h : Mt.layJ d j bs = ((Mt.fillJ d j.next bs).1, j.become (Mt.fillJ d j.next bs).2.1 (Mt.fillJ d j.next bs).2.2)) (h1 : (Mt.lay1 d j bs).2 = 0) (h2 : (Mt.lay2 d j bs).2 = 0) : Mt.layJ d j bs = ((Mt.lay2 d j bs).1, ⟨j.gen + 1, 1 - j.half, 1 - j.head, bs.length, Mt.needs bs, false⟩, 0) := by
  obtain ⟨e1, e2, e3⟩ := Mt.fillJ_ref d j bs
  rw [Mt.refLay_eq, if_pos h1] at e1 e2
  have e4 := e3 (e2.trans h2)
  rw [h, e1, e2, h2, e4]
  unfold Mt.Jn.become
  rw [if_pos rfl]
  rfl
theorem Mt.layJ_no (d : Mt.Dk) (j : Mt.Jn) (bs : List (List UInt8)) (h : ¬ (j.gen + 1 ≤ 4294967295 ∧ 2 ≤ d.room ∧ Mt.needs bs ≤ min (2 + (1 - j.half) * Mt.hsize d.lasts.length + Mt.hsize d.lasts.length) d.room - (2 + (1 - j.half) * Mt.hsize d.lasts.length) - 0)) :
    Mt.layJ d j bs = (d, j, 11) := by
  unfold Mt.layJ
  rw [if_neg]
  rintro ⟨h1, h2⟩
  unfold Mt.Jn.holds at h2
  rw [Bool.and_eq_true, decide_eq_true_eq, decide_eq_true_eq] at h2
  exact h ⟨h1, h2.1, h2.2⟩
section
variable {w u : World} {Q : Nat} {g : Rg} {t : Nat} {j : Mt.Jn} {sl : Int} {d : Mt.Dk}
set_option maxRecDepth 100000 in
set_option maxHeartbeats 2000000 in
theorem rreset_any (h : QD w Q g t j sl d) {v : Value} {bs : List (List UInt8)} (hv : TsP w g Q v bs) (hn : bs.length ≤ 1000) (hb : ∀ b ∈ bs, b.length ≤ 262144) (hne : Mt.needs bs ≤ 10000) (ht : t + 20010 < 1000000) :
    Calls Tryz.prog 19 #[.pointer (some ⟨Q, 0, none⟩), v] w fun e w' => e = .returned (.int .i64 (Mt.resetJ d j bs).2.2) ∧ (∃ sl', QD w' Q g (t + 20010) (Mt.resetJ d j bs).2.1 sl' (Mt.resetJ d j bs).1 ∧ ((Mt.resetJ d j bs).2.2 = 0 → sl' = ((Mt.resetJ d j bs).2.1.head : Int))) ∧ FrQ g Q w w' := by
  obtain ⟨i0, hi, hz0, hz1, hz2⟩ := info_parts Tryz.infoStr6
  have HI := Lib.hid (And.intro hi (And.intro hz0 (And.intro hz1 hz2)))
  clear hi hz0 hz1 hz2
  obtain ⟨va, vc, rfl, HTS⟩ := hv.ts
  obtain ⟨c0, c1, c2, c3, c4, c5, c6⟩ := h.jn.cells
  have HQD := Lib.hid h
  have HTSP := Lib.hid hv
  cases hcl : j.closed with
  | true =>
    have HR := Lib.hid (show Mt.resetJ d j bs = (d, j, 12) by unfold Mt.resetJ Mt.askJ; rw [if_neg (by rw [hcl]; simp), hcl]; rfl)
    rw [hcl] at c6
    clear hcl h hv
    go_enter Tryz.func19, Tryz.ntmps19
    go_wp2_with fail
    go_ret
    rw [HR.out]
    exact ⟨rfl, ⟨sl, HQD.out.mono (by omega), fun h => by cases h⟩, FrQ.refl _ _ _⟩
  | false =>
    have hask : Mt.askJ j bs = 0 := by unfold Mt.askJ; rw [hcl, if_neg (by simp), if_pos]; rw [List.all_eq_true]; intro b hb'; exact decide_eq_true (hb b hb')
    have HRL := Lib.hid (show Mt.resetJ d j bs = Mt.layJ d j bs by unfold Mt.resetJ; rw [if_pos hask])
    rw [hcl] at c6
    have HCL := Lib.hid hcl
    obtain ⟨n, hnn⟩ : ∃ n, bs.length = n := ⟨_, rfl⟩
    have HNN := Lib.hid hnn
    have HN := Lib.hid hn
    have HBB := Lib.hid hb
    have HNE := Lib.hid hne
    have HT := Lib.hid ht
    have hn1 : n ≤ 1000 := by omega
    have HSZ := Lib.hid (rsize_any h)
    have HRM := Lib.hid (eroom_any h.dk)
    rw [hnn]
    have HTS : Hid (∀ k, k < n → ∃ b off, va = some ⟨b, off, none⟩ ∧ b < w.heap.size ∧ w.cell? ⟨b, off + k, none⟩ = some (.string (Mt.str (bs.getD k [])))) := Lib.hid (fun k hk => by
      obtain ⟨b, off, e1, e2, e3⟩ := HTS.out k (by rw [hnn]; exact hk)
      exact ⟨b, off, e1, e2, by rw [Mt.getD_at bs k (by rw [hnn]; exact hk)]; exact e3⟩)
    have hbd : ∀ k, k < n → (bs.getD k []).length ≤ 262144 := fun k hk => by rw [Mt.getD_at bs k (by rw [hnn]; exact hk)]; exact hb _ (List.getElem_mem _)
    have HND := Lib.hid (fun k (hk : k < n) (u : World) => rneed_yes (bs.getD k []).length u (hbd k hk))
    have HLEN := Lib.hid hbd
    have HNT := Lib.hid (fun k => Nat.le_trans (Mt.needs_take_le bs k) hne)
    have HNS := Lib.hid (fun k (hk : k < n) => Mt.needs_step bs k (by rw [hnn]; exact hk))
    have HNA := Lib.hid (show Mt.needs (bs.take n) = Mt.needs bs by rw [List.take_of_length_le (by omega)])
    clear hcl hask h hv hn hb hne ht hnn hbd
    go_enter Tryz.func19, Tryz.ntmps19
    go_wp2_with fail
    go_loop [23, 7] (fun iv _ => ∃ k : Nat, k ≤ n ∧ iv = .int .i64 (k : Int)) (fun iv _ => n - (intOf iv).toNat)
    case atStart => exact ⟨0, Nat.zero_le _, rfl⟩
    case round =>
      obtain ⟨k, hk, rfl⟩ := hrel
      by_cases hlt : k < n
      · obtain ⟨b, off, rfl, -, hc⟩ := HTS.out k hlt
        have hl := HLEN.out k hlt
        generalize bs.getD k [] = B at *
        have hz : (Mt.str B).size ≤ 262144 := by rw [Mt.str_size]; exact hl
        have d1 : decide ((k : Int) < (n : Int)) = true := decide_eq_true (by omega)
        have d2 : decide (k < n) = true := decide_eq_true hlt
        have d3 : decide ((262144 : Int) < ((Mt.str B).size : Int)) = false := decide_eq_false (by omega)
        have d4 : decide (262144 < (Mt.str B).size) = false := decide_eq_false (by omega)
        go_wp2_with fail
        go_round
        case rel => exact ⟨k + 1, by omega, by go_num⟩
        case measure => simp [intOf]; omega
      · obtain rfl : k = n := by omega
        have d1 : decide ((k : Int) < (k : Int)) = false := decide_eq_false (by omega)
        have d2 : decide (k < k) = false := decide_eq_false (by omega)
        clear hlt
        go_wp2_with fail
        clear d1 d2
        go_loop [33, 9, 5] (fun iv _ mv => ∃ k' : Nat, k' ≤ k ∧ iv = .int .i64 (k' : Int) ∧ mv = .int .i64 (Mt.needs (bs.take k') : Int)) (fun iv _ _ => k - (intOf iv).toNat)
        case atStart => exact ⟨0, Nat.zero_le _, rfl, rfl⟩
        case round =>
          obtain ⟨k', hk', rfl, rfl⟩ := hrel
          by_cases hlt : k' < k
          · obtain ⟨b, off, rfl, -, hc⟩ := HTS.out k' hlt
            have hnt := HNT.out k'
            have hnt2 := HNT.out (k' + 1)
            have hns := HNS.out k' hlt
            have HD := Lib.hid (HND.out k' hlt w)
            have d1 : decide ((k' : Int) < (k : Int)) = true := decide_eq_true (by omega)
            have d2 : decide (k' < k) = true := decide_eq_true hlt
            have HNS2 := Lib.hid hns
            generalize (bs.getD k' []) = B at *
            have hss : ((Mt.str B).size : Int) = (B.length : Int) := by rw [Mt.str_size]
            generalize Mt.needs (bs.take k') = M at *
            have d3 : decide ((M : Int) ≤ 10000) = true := decide_eq_true (by omega)
            have d4 : decide (M ≤ 10000) = true := decide_eq_true hnt
            have hMi : (M : Int) ≤ 10000 := by omega
            have hCi : (Mt.cellsN B.length : Int) ≤ 10000 := by omega
            clear hnt hnt2 hns
            go_wp2_with fail
            refine (HD.out).mono ?_
            rintro e w1 ⟨rfl, rfl⟩
            go_wp2_with fail
            go_round
            case rel => exact ⟨k' + 1, by omega, by go_num, by rw [HNS2.out]; go_num⟩
            case measure => simp [intOf]; omega
          · obtain rfl : k' = k := by omega
            have d1 : decide ((k' : Int) < (k' : Int)) = false := decide_eq_false (by omega)
            have d2 : decide (k' < k') = false := decide_eq_false (by omega)
            clear hlt
            rw [HNA.out]
            have hhf := HQD.out.half
            have hgl := HQD.out.gen
            have hrl := HQD.out.dk.ok.room
            have hmo := HQD.out.dk.ok.most
            have hzl := Mt.hsize_le hmo
            have hml := HNE.out
            have HLY := Lib.hid (Mt.layJ_yes d j bs)
            have HLN := Lib.hid (Mt.layJ_no d j bs)
            obtain ⟨z, hz⟩ : ∃ z, Mt.hsize d.lasts.length = z := ⟨_, rfl⟩
            obtain ⟨H, hH⟩ : ∃ H, 1 - j.half = H := ⟨_, rfl⟩
            obtain ⟨M, hM⟩ : ∃ M, Mt.needs bs = M := ⟨_, rfl⟩
            obtain ⟨R, hR⟩ : ∃ R, d.room = R := ⟨_, rfl⟩
            obtain ⟨G, hG⟩ : ∃ G, j.gen = G := ⟨_, rfl⟩
            obtain ⟨F, hF⟩ : ∃ F, 2 + H * z = F := ⟨_, rfl⟩
            have hHi : (1 : Int) - (j.half : Int) = (H : Int) := by omega
            have hH1 : H ≤ 1 := by omega
            have HHH := Lib.hid hH
            have HZZ := Lib.hid hz
            have HMM := Lib.hid hM
            have HGG := Lib.hid hG
            have HFF := Lib.hid hF
            rw [hz, hH, hM, hR, hG, hF] at HLY HLN
            rw [hz] at HSZ hzl
            rw [hR] at HRM hrl
            rw [hM] at hml ⊢
            rw [hG] at c1 hgl
            have hFl : F ≤ 4097 := by
              rcases Nat.eq_zero_or_pos H with e | e
              · subst e; omega
              · obtain rfl : H = 1 := by omega
                omega
            have hF1 : wrap64 ((H : Int) * (z : Int)) = (H : Int) * (z : Int) := by
              have e : (H : Int) * (z : Int) = ((H * z : Nat) : Int) := by push_cast; rfl
              rw [e]; simp only [wrap64]; omega
            have hF2 : (2 : Int) + (H : Int) * (z : Int) = (F : Int) := by clear hF1; rw [← hF]; push_cast; rfl
            have hF4 : wrap64 (F : Int) = (F : Int) := by clear hF1 hF2; simp only [wrap64]; omega
            have hF0 : 2 ≤ F := by rw [← hF]; exact Nat.le_add_right _ _
            have HBD := Lib.hid (And.intro hzl (And.intro hml (And.intro hFl (And.intro hrl (And.intro hmo (And.intro hgl hF0))))))
            clear hz hH hM hR hG hF hzl hH1 hhf hrl hmo hgl hml hFl hF0 d1 d2
            go_wp2_with fail
            with_reducible refine (HSZ.out).mono ?_
            rintro e w1 ⟨rfl, rfl⟩
            go_wp2_with fail
            rw [hF4]
            have d1 : decide ((k' : Int) < (k' : Int)) = false := decide_eq_false (by omega)
            have d2 : decide (k' < k') = false := decide_eq_false (by omega)
            obtain ⟨hzl, hml, hFl, hrl, hmo, hgl, hF0⟩ := HBD.out
            obtain ⟨hX, hhX⟩ : ∃ hX, wrap64 ((H : Int) * (z : Int)) = hX := ⟨_, rfl⟩
            rw [hhX]
            clear hF1 hF2 hF4 hhX hHi
            have hfm : wrap64 ((F : Int) + (M : Int)) = (F : Int) + (M : Int) := by simp only [wrap64]; omega
            have hfm2 : wrap64 ((F : Int) + (M : Int) - 1) = (F : Int) + (M : Int) - 1 := by clear hfm; simp only [wrap64]; omega
            have HOKP := Lib.hid (show ¬ (M ≤ z ∧ (M = 0 ∨ F + M ≤ R) ∧ 2 ≤ R ∧ G < 4294967295) → Mt.layJ d j bs = (d, j, 11) from fun hno => by
              refine HLN.out (fun hh => hno ?_)
              clear hfm hfm2
              omega)
            have HFAIL := Lib.hid (show ¬ (M ≤ z ∧ (M = 0 ∨ F + M ≤ R) ∧ 2 ≤ R ∧ G < 4294967295) → ((.returned (.int .i64 11) : Ending) = .returned (.int .i64 (Mt.resetJ d j bs).2.2) ∧ (∃ sl', QD w Q g (t + 20010) (Mt.resetJ d j bs).2.1 sl' (Mt.resetJ d j bs).1 ∧ ((Mt.resetJ d j bs).2.2 = 0 → sl' = ((Mt.resetJ d j bs).2.1.head : Int))) ∧ FrQ g Q w w) from fun hno => by
              rw [HRL.out, HOKP.out hno]
              exact ⟨rfl, ⟨sl, HQD.out.mono (by omega), fun h => by cases h⟩, FrQ.refl _ _ _⟩)
            by_cases hA : z < M
            · have a1 : decide ((z : Int) < (M : Int)) = true := decide_eq_true (by clear hfm hfm2; omega)
              have a2 : decide (z < M) = true := decide_eq_true hA
              have HF := Lib.hid (HFAIL.out (by clear hfm hfm2; omega))
              clear hA hfm hfm2
              with_reducible refine (HSZ.out).mono ?_
              rintro e w1 ⟨rfl, rfl⟩
              go_wp2_with fail
              go_ret
              exact HF.out
            have a1 : decide ((z : Int) < (M : Int)) = false := decide_eq_false (by clear hfm hfm2; omega)
            have a2 : decide (z < M) = false := decide_eq_false hA
            by_cases hB : 0 < M ∧ R < F + M
            · obtain ⟨hB1, hB2⟩ := hB
              have b1 : decide ((0 : Int) < (M : Int)) = true := decide_eq_true (by clear hfm hfm2; omega)
              have b2 : decide (0 < M) = true := decide_eq_true hB1
              have b3 : decide ((R : Int) ≤ (F : Int) + (M : Int) - 1) = true := decide_eq_true (by clear hfm hfm2; omega)
              have HF := Lib.hid (HFAIL.out (by clear hfm hfm2; omega))
              clear hA hB1 hB2
              with_reducible refine (HSZ.out).mono ?_
              rintro e w1 ⟨rfl, rfl⟩
              go_wp2_with fail
              with_reducible refine (HRM.out).mono ?_
              rintro e w1 ⟨rfl, rfl⟩
              go_wp2_with fail
              go_ret
              exact HF.out
            have hok2 : M = 0 ∨ F + M ≤ R := by clear hfm hfm2; omega
            by_cases hC : R < 2
            · have b1 : decide ((0 : Int) < (M : Int)) = false := decide_eq_false (by clear hfm hfm2; omega)
              have b2 : decide (0 < M) = false := decide_eq_false (by clear hfm hfm2; omega)
              have e1 : decide ((R : Int) < 2) = true := decide_eq_true (by clear hfm hfm2; omega)
              have e2 : decide (R < 2) = true := decide_eq_true hC
              have HF := Lib.hid (HFAIL.out (by clear hfm hfm2; omega))
              clear hA hB hC hok2 hfm hfm2
              with_reducible refine (HSZ.out).mono ?_
              rintro e w1 ⟨rfl, rfl⟩
              go_wp2_with fail
              with_reducible refine (HRM.out).mono ?_
              rintro e w1 ⟨rfl, rfl⟩
              go_wp2_with fail
              go_ret
              exact HF.out
            have e1 : decide ((R : Int) < 2) = false := decide_eq_false (by clear hfm hfm2; omega)
            have e2 : decide (R < 2) = false := decide_eq_false hC
            by_cases hD : 4294967295 ≤ G
            · have f1 : decide ((4294967295 : Int) ≤ (G : Int)) = true := decide_eq_true (by clear hfm hfm2; omega)
              have f2 : decide (4294967295 ≤ G) = true := decide_eq_true hD
              have HF := Lib.hid (HFAIL.out (by clear hfm hfm2; omega))
              by_cases hM0 : M = 0
              · have b1 : decide ((0 : Int) < (M : Int)) = false := decide_eq_false (by clear hfm hfm2; omega)
                have b2 : decide (0 < M) = false := decide_eq_false (by clear hfm hfm2; omega)
                clear hA hB hC hD hok2 hM0 hfm hfm2 hgl
                with_reducible refine (HSZ.out).mono ?_
                rintro e w1 ⟨rfl, rfl⟩
                go_wp2_with fail
                with_reducible refine (HRM.out).mono ?_
                rintro e w1 ⟨rfl, rfl⟩
                go_wp2_with fail
                go_ret
                exact HF.out
              · have b1 : decide ((0 : Int) < (M : Int)) = true := decide_eq_true (by clear hfm hfm2; omega)
                have b2 : decide (0 < M) = true := decide_eq_true (by clear hfm hfm2; omega)
                have b3 : decide ((R : Int) ≤ (F : Int) + (M : Int) - 1) = false := decide_eq_false (by clear hfm hfm2; omega)
                clear hA hB hC hD hok2 hM0 hgl
                with_reducible refine (HSZ.out).mono ?_
                rintro e w1 ⟨rfl, rfl⟩
                go_wp2_with fail
                with_reducible refine (HRM.out).mono ?_
                rintro e w1 ⟨rfl, rfl⟩
                go_wp2_with fail
                with_reducible refine (HRM.out).mono ?_
                rintro e w1 ⟨rfl, rfl⟩
                go_wp2_with fail
                go_ret
                exact HF.out
            have f1 : decide ((4294967295 : Int) ≤ (G : Int)) = false := decide_eq_false (by clear hfm hfm2; omega)
            have f2 : decide (4294967295 ≤ G) = false := decide_eq_false hD
            have HYES := Lib.hid (HLY.out (by clear hfm hfm2; omega) (by clear hfm hfm2; omega) (by clear hfm hfm2; omega))
            have HDL := Lib.hid (show M ≤ z ∧ G < 4294967295 by clear hfm hfm2; omega)
            have hways : (decide ((0 : Int) < (M : Int)) = false ∧ decide (0 < M) = false) ∨ (decide ((0 : Int) < (M : Int)) = true ∧ decide (0 < M) = true ∧ decide ((R : Int) ≤ (F : Int) + (M : Int) - 1) = false) := by
              clear hfm hfm2
              rcases hok2 with h0 | h0
              · exact .inl ⟨decide_eq_false (by omega), decide_eq_false (by omega)⟩
              · by_cases hm0 : M = 0
                · exact .inl ⟨decide_eq_false (by omega), decide_eq_false (by omega)⟩
                · exact .inr ⟨decide_eq_true (by omega), decide_eq_true (by omega), decide_eq_false (by omega)⟩
            have HBD2 := Lib.hid (And.intro hzl (And.intro hml (And.intro hFl (And.intro hrl (And.intro hmo (And.intro hgl hF0))))))
            clear hok2 hA hB hC hD hzl hml hrl hmo hgl HFAIL HOKP HLN HLY
            rcases hways with ⟨b1, b2⟩ | ⟨b1, b2, b3⟩
            all_goals
              go_wp2_with (first
                | (go_at_call 40; (with_reducible refine (HSZ.out).mono ?_); rintro e w1 ⟨rfl, rfl⟩)
                | (go_at_call 49; (with_reducible refine (HRM.out).mono ?_); rintro e w1 ⟨rfl, rfl⟩))
              have HCE : Hid (∀ q, q < k' → ∀ u, Calls Tryz.prog 50 #[.int .i64 ((G : Int) + 1), .int .i64 (q : Int), .string (Mt.str (bs.getD q []))] u fun e w' => ∃ a c, e = .returned (.slice a (Mt.secsOf (G + 1) q (bs.getD q [])).length c) ∧ IsOwn 9 1 u.heap.size w' (.slice a (Mt.secsOf (G + 1) q (bs.getD q [])).length c) (Mt.secsOf (G + 1) q (bs.getD q [])).length (tcs (Mt.secsOf (G + 1) q (bs.getD q []))) ∧ Below u.heap.size u w') := Lib.hid (fun q hq u => rcells_any (w := u) (G + 1) q (bs.getD q []) (by have := HDL.out.2; omega) (by omega) (HLEN.out q hq))
              have HAS := Lib.hid (fun q (hq : q < k') => Mt.allSecs_take (G + 1) bs q (by rw [HNN.out]; exact hq))
              have HAL := Lib.hid (fun q => show (Mt.allSecs (G + 1) 0 (bs.take q)).length ≤ 10000 by rw [Mt.allSecs_length]; exact HNT.out q)
              have HSL := Lib.hid (fun q (hq : q < k') => show 0 < (Mt.secsOf (G + 1) q (bs.getD q [])).length ∧ (Mt.secsOf (G + 1) q (bs.getD q [])).length ≤ 2384 by rw [Mt.secsOf_length]; have := HLEN.out q hq; unfold Mt.cellsN; omega)
              have HR0 : Hid (IsOwn 9 1 w.heap.size w (.slice none 0 0) 0 (tcs (Mt.allSecs (G + 1) 0 (bs.take 0))) ∧ Below w.heap.size w w) := Lib.hid ⟨IsOwn.nil _ _ _ _, Below.refl _ _⟩
              have HC1 : Hid (∀ u, Below w.heap.size w u → u.cell? ⟨Q, 1, none⟩ = some (.int .i64 (G : Int))) := Lib.hid (fun u hu => by have := (HQD.out.below hu).jn.cells.2.1; rw [HGG.out] at this; exact this)
              clear a1 a2 e1 e2 f1 f2 b1 b2 hfm hfm2 d1 d2 c0 c1 c2 c3 c4 c5 c6
              go_loopw [92, 13, 14, 12] (fun iv _ _ av wr => ∃ (q m : Nat) (a : Option Addr) (c : Nat), q ≤ k' ∧ iv = .int .i64 (q : Int) ∧ av = .slice a m c ∧ m = (Mt.allSecs (G + 1) 0 (bs.take q)).length ∧ Hid (IsOwn 9 1 w.heap.size wr (.slice a m c) m (tcs (Mt.allSecs (G + 1) 0 (bs.take q))) ∧ Below w.heap.size w wr)) (fun iv _ _ _ _ => k' - (intOf iv).toNat)
              case atStart => exact ⟨0, 0, none, 0, Nat.zero_le _, rfl, rfl, rfl, HR0⟩
              case round =>
                obtain ⟨q, m, a, c, hq, rfl, rfl, hm, HRA⟩ := hrel
                by_cases hlt : q < k'
                · obtain ⟨b, off, rfl, hbl, hc⟩ := HTS.out q hlt
                  have hc2 := ((HRA.out.2).cell (p := ⟨b, off + q, none⟩) hbl).trans hc
                  have hq1 := HC1.out wr HRA.out.2
                  have HC := Lib.hid (HCE.out q hlt wr)
                  have HS1 := Lib.hid (HAS.out q hlt)
                  have HL1 := Lib.hid (HAL.out q)
                  have HL2 := Lib.hid (HSL.out q hlt)
                  have d1 : decide ((q : Int) < (k' : Int)) = true := decide_eq_true (by omega)
                  have d2 : decide (q < k') = true := decide_eq_true hlt
                  have hGi : (G : Int) < 4294967295 := by have := HDL.out.2; omega
                  generalize bs.getD q [] = B at *
                  generalize Mt.secsOf (G + 1) q B = X at *
                  have HM := Lib.hid hm
                  clear hc hbl hm
                  go_wp2_with fail
                  with_reducible refine (HC.out).mono ?_
                  rintro e w2 ⟨a2, c2, rfl, ho2, hb2⟩
                  have HB2 := Lib.hid (HRA.out.2.trans (hb2.mono HRA.out.2.size))
                  obtain ⟨a3, c3, w3, hrun, hown, hb3⟩ := own_row HI.out.1 HI.out.2.1 HI.out.2.2.1 HI.out.2.2.2 rfl HM.out rfl (HRA.out.1.below hb2) ho2 HL2.out.1 HB2.out.size (by have h1 := HL1.out; have h2 := HL2.out; have h3 := HM.out; omega)
                  have HO3 := Lib.hid hown
                  have HB3 := Lib.hid (HB2.out.trans hb3)
                  clear hown hb3 hb2 ho2
                  go_wp2_with (refine wpList_append_run rfl _ _ 30 30 rfl _ _ rfl rfl hrun ?_)
                  go_roundw
                  case rel => exact ⟨q + 1, _, a3, c3, by omega, by go_num, rfl, by rw [HS1.out, List.length_append, HM.out], Lib.hid ⟨by rw [HS1.out]; exact HO3.out, HB3.out⟩⟩
                  case measure => simp [intOf]; omega
                · obtain rfl : q = k' := by omega
                  have hall : bs.take q = bs := List.take_of_length_le (by rw [HNN.out]; exact Nat.le_refl _)
                  rw [hall] at hm HRA
                  have HL1 := Lib.hid (show (Mt.allSecs (G + 1) 0 bs).length = M by rw [Mt.allSecs_length, HMM.out])
                  have HX1 : Hid (Mt.lay1 d j bs = Mt.wrF d F (Mt.allSecs (G + 1) 0 bs)) := Lib.hid (by
                    have hf : j.next.first d.lasts.length = F := by show 2 + (1 - j.half) * Mt.hsize d.lasts.length = F; rw [HHH.out, HZZ.out, HFF.out]
                    unfold Mt.lay1
                    rw [hf, HGG.out])
                  obtain ⟨A, hA⟩ : ∃ A, Mt.allSecs (G + 1) 0 bs = A := ⟨_, rfl⟩
                  rw [hA] at hm HRA HL1 HX1
                  subst hm
                  have d1 : decide ((q : Int) < (q : Int)) = false := decide_eq_false (by omega)
                  have d2 : decide (q < q) = false := decide_eq_false (by omega)
                  obtain ⟨g', hq', hts, hfq, hless⟩ := HQD.out.row HRA.out.2 HRA.out.1
                  have HQ' := Lib.hid hq'
                  have HFQ := Lib.hid hfq
                  have HLS := Lib.hid hless
                  have HW := Lib.hid (rwrite_any hq' hts F (by have h1 := HL1.out; have h2 := HBD2.out.2.1; have h3 := HT.out; omega) (by have := HBD2.out.2.2.1; omega))
                  rw [← HX1.out] at HW
                  have HC3 : Hid (∀ (t' : Nat) (j' : Mt.Jn) (d' : Mt.Dk) u, QD u Q g t' j' sl d' → u.cell? ⟨Q, 3, none⟩ = some (.int .i64 sl)) := Lib.hid (fun _ _ _ _ hu => hu.jn.cells.2.2.2.1)
                  clear hlt hall hA hq' hts hfq hless
                  go_wp2_with fail
                  with_reducible refine (HW.out).mono ?_
                  rintro e w2 ⟨rfl, hqd, hfr⟩
                  have hqd := HLS.out _ _ _ _ _ hqd
                  have HF2 := Lib.hid ((show FrQ g Q w wr from (FrQ.refl g Q w).below HRA.out.2).trans (HFQ.out _ _ hfr))
                  obtain ⟨r1, E1, hr1⟩ : ∃ r1 E1, Mt.lay1 d j bs = (r1, E1) := ⟨_, _, rfl⟩
                  have HR1 := Lib.hid hr1
                  rw [hr1] at hqd ⊢
                  simp only at hqd ⊢
                  by_cases hE1 : E1 = 0
                  · subst hE1
                    have hjc : ({ j with closed := decide ((0 : Int) ≠ 0) } : Mt.Jn) = j := by
                      have := HCL.out
                      cases j
                      simp only at this
                      subst this
                      rfl
                    rw [hjc] at hqd
                    have HHD : Hid (∀ u, Calls Tryz.prog 52 #[.int .i64 ((G : Int) + 1), .int .i64 (H : Int)] u fun e w' => e = .returned (.string (Mt.str (Mt.hdSector (G + 1) H))) ∧ Below u.heap.size u w') := Lib.hid (fun u => rhead_any (G + 1) H (by have := HDL.out.2; omega) (by have := HQD.out.half; have := HHH.out; omega) u)
                    have HC1J : Hid (∀ (t' : Nat) (sl' : Int) (d' : Mt.Dk) u, QD u Q g t' j sl' d' → u.cell? ⟨Q, 1, none⟩ = some (.int .i64 (G : Int))) := Lib.hid (fun _ _ _ _ hu => by have := hu.jn.cells.2.1; rw [HGG.out] at this; exact this)
                    have hGi : (G : Int) < 4294967295 := by have := HDL.out.2; omega
                    clear hr1 hfr hjc
                    rcases HQD.out.slot with ⟨hs0, hh0⟩ | ⟨hs1, hh1⟩
                    · have s1 : (sl == 0) = true := by simpa using hs0
                      have HH0 := Lib.hid hh0
                      have HS0 := Lib.hid hs0
                      clear hs0 hh0
                      have hx3 := HC3.out _ _ _ _ hqd
                      have HQ2 := Lib.hid hqd
                      have hq1 := HC1J.out _ _ _ _ hqd
                      clear hqd
                      go_wp2_with fail
                      with_reducible refine (HHD.out _).mono ?_
                      rintro e w3 ⟨rfl, hb3⟩
                      have hqd3 := HQ2.out.below hb3
                      have HF3 := Lib.hid (HF2.out.below hb3)
                      have hba := (Below.refl w3.heap.size w3).alloc (Nat.le_refl _) (.cells #[.string (Mt.str (Mt.hdSector (G + 1) H))] 9)
                      obtain ⟨g2, hq2, hts2, hfq2, hless2⟩ := hqd3.row hba (own_one w3 (Mt.hdSector (G + 1) H))
                      have HF4 := Lib.hid (HF3.out.below hba)
                      have HX2 : Hid (Mt.lay2 d j bs = Mt.wrF r1 1 [Mt.hdSector (G + 1) H]) := Lib.hid (by
                        unfold Mt.lay2
                        rw [HR1.out, HGG.out, HHH.out, HH0.out])
                      have HW2 : Hid (Calls Tryz.prog 51 #[.pointer (some ⟨Q, 0, none⟩), .int .i64 1, .slice (some ⟨w3.heap.size, 0, none⟩) 1 1] (w3.alloc (.cells #[.string (Mt.str (Mt.hdSector (G + 1) H))] 9)) fun e w' => e = .returned (.int .i64 (Mt.lay2 d j bs).2) ∧ QD w' Q g2 (t + A.length + 1 + 1 + 1) { j with closed := decide ((Mt.lay2 d j bs).2 ≠ 0) } sl (Mt.lay2 d j bs).1 ∧ FrQ g2 Q (w3.alloc (.cells #[.string (Mt.str (Mt.hdSector (G + 1) H))] 9)) w') := Lib.hid (by
                        have hw := rwrite_any hq2 hts2 1 (by show t + A.length + 1 + 1 + 1 < 1000000; have h1 := HL1.out; have h2 := HBD2.out.2.1; have h3 := HT.out; omega) (by decide)
                        rw [← HX2.out] at hw
                        exact hw)
                      have HFQ2 := Lib.hid hfq2
                      have HLS2 := Lib.hid hless2
                      clear hqd3 hba hq2 hts2 hfq2 hless2 hb3 hx3 hq1
                      go_wp2_with fail
                      with_reducible refine (HW2.out).mono ?_
                      rintro e w4 ⟨rfl, hqd, hfr⟩
                      have hqd := HLS2.out _ _ _ _ _ hqd
                      have HF5 := Lib.hid (HF4.out.trans (HFQ2.out _ _ hfr))
                      obtain ⟨r2, E2, hr2⟩ : ∃ r2 E2, Mt.lay2 d j bs = (r2, E2) := ⟨_, _, rfl⟩
                      have HR2 := Lib.hid hr2
                      rw [hr2] at hqd ⊢
                      simp only at hqd ⊢
                      by_cases hE2 : E2 = 0
                      · subst hE2
                        have hjc : ({ j with closed := decide ((0 : Int) ≠ 0) } : Mt.Jn) = j := by
                          have := HCL.out
                          cases j
                          simp only at this
                          subst this
                          rfl
                        rw [hjc] at hqd
                        have HQ5 := Lib.hid hqd
                        have HGOOD := Lib.hid (Mt.lay_good HYES.out (by rw [HR1.out]) (by rw [hr2]))
                        obtain ⟨k0, k1, k2, k3, k4, k5, k6⟩ := hqd.jn.cells
                        rw [HGG.out] at k1
                        have p1 := frozen_of_row _ Q 1 _ _ hqd.jn
                        have p2 := frozen_of_row _ Q 2 _ _ hqd.jn
                        have p3 := frozen_of_row _ Q 3 _ _ hqd.jn
                        have p4 := frozen_of_row _ Q 4 _ _ hqd.jn
                        have p5 := frozen_of_row _ Q 5 _ _ hqd.jn
                        clear hqd hfr hr2 hjc
                        go_wp2_with fail
                        go_ret
                        rw [HRL.out, HGOOD.out, HR2.out]
                        refine ⟨rfl, ⟨1, ?_, fun _ => by show (1 : Int) = ((1 - j.head : Nat) : Int); rw [HH0.out]; rfl⟩, ((((HF5.out.set 1 _).set 2 _).set 3 _).set 4 _).set 5 _⟩
                        have hb1 := HBD2.out
                        have hb2 := HDL.out
                        have hgg := HGG.out
                        have hhh := HHH.out
                        have hcu := HQD.out.used
                        have hcc := HQD.out.count
                        have hhd := HQD.out.head
                        have hn1 := HN.out
                        have u1 := HQ5.out.set 1 (.int .i64 ((G : Int) + 1)) (n := ⟨j.gen + 1, j.half, j.head, j.count, j.used, j.closed⟩) (sl' := sl) (by rw [← hgg]; rfl) HQD.out.half HQD.out.head (by show j.gen + 1 ≤ 4294967296; omega) hcu hcc HQD.out.slot
                        have u2 := u1.set 2 (.int .i64 (H : Int)) (n := ⟨j.gen + 1, H, j.head, j.count, j.used, j.closed⟩) (sl' := sl) rfl (by show H ≤ 1; omega) HQD.out.head (by show j.gen + 1 ≤ 4294967296; omega) hcu hcc HQD.out.slot
                        have u3 := u2.set 3 (.int .i64 1) (n := ⟨j.gen + 1, H, 1 - j.head, j.count, j.used, j.closed⟩) (sl' := 1) rfl (by show H ≤ 1; omega) (by show 1 - j.head ≤ 1; omega) (by show j.gen + 1 ≤ 4294967296; omega) hcu hcc (.inr ⟨by decide, by show 1 - j.head = 1; rw [HH0.out]⟩)
                        have u4 := u3.set 4 (.int .i64 (M : Int)) (n := ⟨j.gen + 1, H, 1 - j.head, j.count, M, j.closed⟩) (sl' := 1) rfl (by show H ≤ 1; omega) (by show 1 - j.head ≤ 1; omega) (by show j.gen + 1 ≤ 4294967296; omega) (by show M ≤ 8192; omega) hcc (.inr ⟨by decide, by show 1 - j.head = 1; rw [HH0.out]⟩)
                        have u5 := u4.set 5 (.int .i64 (q : Int)) (n := ⟨j.gen + 1, H, 1 - j.head, q, M, j.closed⟩) (sl' := 1) rfl (by show H ≤ 1; omega) (by show 1 - j.head ≤ 1; omega) (by show j.gen + 1 ≤ 4294967296; omega) (by show M ≤ 8192; omega) (by show q ≤ 8192; have := HNN.out; omega) (.inr ⟨by decide, by show 1 - j.head = 1; rw [HH0.out]⟩)
                        rw [HHH.out, HNN.out, HMM.out, ← HCL.out]
                        exact u5.mono (by have h1 := HL1.out; omega)
                      · have y1 : (E2 != 0) = true := by simpa using hE2
                        have y2 : (E2 == 0) = false := by simpa using hE2
                        have HBAD := Lib.hid (Mt.lay_bad2 HYES.out (by rw [HR1.out]) (by rw [hr2]; exact hE2))
                        have HQ5 := Lib.hid hqd
                        have HNE2 := Lib.hid hE2
                        clear hqd hfr hr2 hE2
                        go_wp2_with fail
                        go_ret
                        rw [HRL.out, HBAD.out, HR2.out]
                        refine ⟨rfl, ⟨sl, ?_, fun h => absurd h HNE2.out⟩, HF5.out⟩
                        have h1 := HQ5.out.mono (t' := t + 20010) (by have h1 := HL1.out; have h2 := HBD2.out.2.1; omega)
                        rw [show decide (E2 ≠ 0) = true from decide_eq_true HNE2.out] at h1
                        exact h1
                    · have s1 : (sl == 0) = false := by simpa using hs1
                      have HH0 := Lib.hid hh1
                      clear hs1 hh1
                      have hx3 := HC3.out _ _ _ _ hqd
                      have HQ2 := Lib.hid hqd
                      have hq1 := HC1J.out _ _ _ _ hqd
                      clear hqd
                      go_wp2_with fail
                      with_reducible refine (HHD.out _).mono ?_
                      rintro e w3 ⟨rfl, hb3⟩
                      have hqd3 := HQ2.out.below hb3
                      have HF3 := Lib.hid (HF2.out.below hb3)
                      have hba := (Below.refl w3.heap.size w3).alloc (Nat.le_refl _) (.cells #[.string (Mt.str (Mt.hdSector (G + 1) H))] 9)
                      obtain ⟨g2, hq2, hts2, hfq2, hless2⟩ := hqd3.row hba (own_one w3 (Mt.hdSector (G + 1) H))
                      have HF4 := Lib.hid (HF3.out.below hba)
                      have HX2 : Hid (Mt.lay2 d j bs = Mt.wrF r1 0 [Mt.hdSector (G + 1) H]) := Lib.hid (by
                        unfold Mt.lay2
                        rw [HR1.out, HGG.out, HHH.out, HH0.out])
                      have HW2 : Hid (Calls Tryz.prog 51 #[.pointer (some ⟨Q, 0, none⟩), .int .i64 0, .slice (some ⟨w3.heap.size, 0, none⟩) 1 1] (w3.alloc (.cells #[.string (Mt.str (Mt.hdSector (G + 1) H))] 9)) fun e w' => e = .returned (.int .i64 (Mt.lay2 d j bs).2) ∧ QD w' Q g2 (t + A.length + 1 + 1 + 1) { j with closed := decide ((Mt.lay2 d j bs).2 ≠ 0) } sl (Mt.lay2 d j bs).1 ∧ FrQ g2 Q (w3.alloc (.cells #[.string (Mt.str (Mt.hdSector (G + 1) H))] 9)) w') := Lib.hid (by
                        have hw := rwrite_any hq2 hts2 0 (by show t + A.length + 1 + 1 + 1 < 1000000; have h1 := HL1.out; have h2 := HBD2.out.2.1; have h3 := HT.out; omega) (by decide)
                        rw [← HX2.out] at hw
                        exact hw)
                      have HFQ2 := Lib.hid hfq2
                      have HLS2 := Lib.hid hless2
                      clear hqd3 hba hq2 hts2 hfq2 hless2 hb3 hx3 hq1
                      go_wp2_with fail
                      with_reducible refine (HW2.out).mono ?_
                      rintro e w4 ⟨rfl, hqd, hfr⟩
                      have hqd := HLS2.out _ _ _ _ _ hqd
                      have HF5 := Lib.hid (HF4.out.trans (HFQ2.out _ _ hfr))
                      obtain ⟨r2, E2, hr2⟩ : ∃ r2 E2, Mt.lay2 d j bs = (r2, E2) := ⟨_, _, rfl⟩
                      have HR2 := Lib.hid hr2
                      rw [hr2] at hqd ⊢
                      simp only at hqd ⊢
                      by_cases hE2 : E2 = 0
                      · subst hE2
                        have hjc : ({ j with closed := decide ((0 : Int) ≠ 0) } : Mt.Jn) = j := by
                          have := HCL.out
                          cases j
                          simp only at this
                          subst this
                          rfl
                        rw [hjc] at hqd
                        have HQ5 := Lib.hid hqd
                        have HGOOD := Lib.hid (Mt.lay_good HYES.out (by rw [HR1.out]) (by rw [hr2]))
                        obtain ⟨k0, k1, k2, k3, k4, k5, k6⟩ := hqd.jn.cells
                        rw [HGG.out] at k1
                        have p1 := frozen_of_row _ Q 1 _ _ hqd.jn
                        have p2 := frozen_of_row _ Q 2 _ _ hqd.jn
                        have p3 := frozen_of_row _ Q 3 _ _ hqd.jn
                        have p4 := frozen_of_row _ Q 4 _ _ hqd.jn
                        have p5 := frozen_of_row _ Q 5 _ _ hqd.jn
                        clear hqd hfr hr2 hjc
                        go_wp2_with fail
                        go_ret
                        rw [HRL.out, HGOOD.out, HR2.out]
                        refine ⟨rfl, ⟨0, ?_, fun _ => by show (0 : Int) = ((1 - j.head : Nat) : Int); rw [HH0.out]; rfl⟩, ((((HF5.out.set 1 _).set 2 _).set 3 _).set 4 _).set 5 _⟩
                        have hb1 := HBD2.out
                        have hb2 := HDL.out
                        have hgg := HGG.out
                        have hhh := HHH.out
                        have hcu := HQD.out.used
                        have hcc := HQD.out.count
                        have hhd := HQD.out.head
                        have hn1 := HN.out
                        have u1 := HQ5.out.set 1 (.int .i64 ((G : Int) + 1)) (n := ⟨j.gen + 1, j.half, j.head, j.count, j.used, j.closed⟩) (sl' := sl) (by rw [← hgg]; rfl) HQD.out.half HQD.out.head (by show j.gen + 1 ≤ 4294967296; omega) hcu hcc HQD.out.slot
                        have u2 := u1.set 2 (.int .i64 (H : Int)) (n := ⟨j.gen + 1, H, j.head, j.count, j.used, j.closed⟩) (sl' := sl) rfl (by show H ≤ 1; omega) HQD.out.head (by show j.gen + 1 ≤ 4294967296; omega) hcu hcc HQD.out.slot
                        have u3 := u2.set 3 (.int .i64 0) (n := ⟨j.gen + 1, H, 1 - j.head, j.count, j.used, j.closed⟩) (sl' := 0) rfl (by show H ≤ 1; omega) (by show 1 - j.head ≤ 1; omega) (by show j.gen + 1 ≤ 4294967296; omega) hcu hcc (.inl ⟨rfl, by show 1 - j.head = 0; rw [HH0.out]⟩)
                        have u4 := u3.set 4 (.int .i64 (M : Int)) (n := ⟨j.gen + 1, H, 1 - j.head, j.count, M, j.closed⟩) (sl' := 0) rfl (by show H ≤ 1; omega) (by show 1 - j.head ≤ 1; omega) (by show j.gen + 1 ≤ 4294967296; omega) (by show M ≤ 8192; omega) hcc (.inl ⟨rfl, by show 1 - j.head = 0; rw [HH0.out]⟩)
                        have u5 := u4.set 5 (.int .i64 (q : Int)) (n := ⟨j.gen + 1, H, 1 - j.head, q, M, j.closed⟩) (sl' := 0) rfl (by show H ≤ 1; omega) (by show 1 - j.head ≤ 1; omega) (by show j.gen + 1 ≤ 4294967296; omega) (by show M ≤ 8192; omega) (by show q ≤ 8192; have := HNN.out; omega) (.inl ⟨rfl, by show 1 - j.head = 0; rw [HH0.out]⟩)
                        rw [HHH.out, HNN.out, HMM.out, ← HCL.out]
                        exact u5.mono (by have h1 := HL1.out; omega)
                      · have y1 : (E2 != 0) = true := by simpa using hE2
                        have y2 : (E2 == 0) = false := by simpa using hE2
                        have HBAD := Lib.hid (Mt.lay_bad2 HYES.out (by rw [HR1.out]) (by rw [hr2]; exact hE2))
                        have HQ5 := Lib.hid hqd
                        have HNE2 := Lib.hid hE2
                        clear hqd hfr hr2 hE2
                        go_wp2_with fail
                        go_ret
                        rw [HRL.out, HBAD.out, HR2.out]
                        refine ⟨rfl, ⟨sl, ?_, fun h => absurd h HNE2.out⟩, HF5.out⟩
                        have h1 := HQ5.out.mono (t' := t + 20010) (by have h1 := HL1.out; have h2 := HBD2.out.2.1; omega)
                        rw [show decide (E2 ≠ 0) = true from decide_eq_true HNE2.out] at h1
                        exact h1
                  · have x1 : (E1 != 0) = true := by simpa using hE1
                    have x2 : (E1 == 0) = false := by simpa using hE1
                    have HBAD := Lib.hid (Mt.lay_bad1 HYES.out (by rw [hr1]; exact hE1))
                    have HQ2 := Lib.hid hqd
                    have HNE1 := Lib.hid hE1
                    clear hqd hfr hr1 hE1
                    go_wp2_with fail
                    go_ret
                    rw [HRL.out, HBAD.out, HR1.out]
                    refine ⟨rfl, ⟨sl, ?_, fun h => absurd h HNE1.out⟩, HF2.out⟩
                    have h1 := HQ2.out.mono (t' := t + 20010) (by have h1 := HL1.out; have h2 := HBD2.out.2.1; omega)
                    rw [show decide (E1 ≠ 0) = true from decide_eq_true HNE1.out] at h1
                    exact h1
end
end Go.Proofs.YtnioagojiipjlaaGreat
