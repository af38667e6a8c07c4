/-
  What Write, Crash and Flush of the document's disk come to.
-/
import Derived.Test.YtlknfgomagmpcaaDrC
namespace Go.Proofs.Ytlknfgomagmpcaa
open Go.RowKit Go.Maps

theorem Mt.str_self (s : ByteArray) : Mt.str s.data.toList = s := by cases s; simp [Mt.str]
theorem Mt.count2 (d : Mt.Dk) : d.count.2 = 0 ∨ d.count.2 = 10 := by
  unfold Mt.Dk.count
  split
  · exact .inl rfl
  · split
    · exact .inr rfl
    · exact .inl rfl
/-- Without power nothing waits. -/
def Mt.Calm (d : Mt.Dk) : Prop := d.off = true → d.waits = Mt.noWaits d.lasts.length
theorem Mt.lose_calm {d : Mt.Dk} (h : d.waits = Mt.noWaits d.lasts.length) (keep : Nat) (torn at' : Int) : d.lose keep torn at' = d := by
  unfold Mt.Dk.lose Mt.loseAll
  have e : Mt.wkeys d.waits = [] := by rw [h]; exact Mt.wkeys_none _
  rw [e, ← h]
  rfl

section
variable {w : World} {g : Rg} {d : Mt.Dk} {t : Nat}

set_option maxRecDepth 100000 in
theorem ewrite_any (h : IsR w g t d) (ht : t < 1000) (i : Int) (s : ByteArray) : Calls Try.prog 47 #[.pointer (some ⟨g.R, 0, none⟩), .int .i64 i, .string s] w fun e w' => e = .returned (.int .i64 (d.write i s.data.toList).2) ∧ IsR w' g (t + 1) (d.write i s.data.toList).1 ∧ Fr g w w' := by
  obtain ⟨⟨a, c0⟩, c4, _, _, _, _, f⟩ := h.cells
  have HD := Lib.hid h
  have HRM := Lib.hid (eroom_any h)
  cases hoff : d.off with
  | true =>
    have e : d.ask i = 10 := by unfold Mt.Dk.ask; rw [hoff]; rfl
    have e2 : d.write i s.data.toList = (d, 10) := by unfold Mt.Dk.write; rw [if_neg (by rw [e]; decide), e]
    rw [e2]
    rw [hoff] at c4
    clear h e e2 hoff f c0
    go_enter Try.func47, Try.ntmps47
    go_wp2
    go_ret
    exact ⟨rfl, HD.out.mono (by omega), Fr.refl _ _⟩
  | false =>
    rw [hoff] at c4
    by_cases hi : i < 0 ∨ (d.lasts.length : Int) ≤ i
    · have e : d.ask i = 2 := by unfold Mt.Dk.ask; rw [hoff]; simp [hi]
      have e2 : d.write i s.data.toList = (d, 2) := by unfold Mt.Dk.write; rw [if_neg (by rw [e]; decide), e]
      rw [e2]
      clear h e e2 hoff f
      generalize d.lasts.length = n at *
      by_cases h1 : i < 0
      · go_enter Try.func47, Try.ntmps47
        go_wp2
        go_ret
        exact ⟨rfl, HD.out.mono (by omega), Fr.refl _ _⟩
      · have h1' : decide (i < 0) = false := decide_eq_false h1
        have h2 : (n : Int) ≤ i := by omega
        clear hi
        go_enter Try.func47, Try.ntmps47
        go_wp2
        go_ret
        exact ⟨rfl, HD.out.mono (by omega), Fr.refl _ _⟩
    · have e : d.ask i = 0 := by unfold Mt.Dk.ask; rw [hoff, if_neg hi]; rfl
      obtain ⟨k, rfl⟩ : ∃ k : Nat, i = k := ⟨i.toNat, by omega⟩
      have hk : k < d.lasts.length := by omega
      have h1' : decide ((k : Int) < 0) = false := decide_eq_false (by omega)
      have h2' : decide ((d.lasts.length : Int) ≤ (k : Int)) = false := decide_eq_false (by omega)
      have h3' : (k : Int) < (d.lasts.length : Int) := by omega
      have hk0 : (0 : Int) ≤ (k : Int) := by omega
      by_cases hs : s.size = 128
      · have hs' : ((s.size : Int) != 128) = false := by simp; omega
        by_cases hr : (k : Int) < d.room
        · have e2 : d.write k s.data.toList = ({ d with waits := d.waits.set k (some s.data.toList) } : Mt.Dk).count := by unfold Mt.Dk.write; rw [if_pos e, if_pos (show s.data.toList.length = 128 from hs), if_pos hr, Int.toNat_natCast]
          rw [e2]
          obtain ⟨n0, n1, _, nw, _, fw⟩ := h.cellsN (by omega)
          have cw := nw k hk
          have fw' := fw k
          have hr' : decide ((d.room : Int) ≤ (k : Int)) = false := decide_eq_false (by omega)
          have hrN : ¬ d.room ≤ k := by omega
          have hrD : decide (d.room ≤ k) = false := decide_eq_false hrN
          have HS := Lib.hid (h.setW k hk (some s.data.toList) (fun b hb => by cases hb; exact hs))
          have HF := Lib.hid ((Fr.refl g w).setCell (x := g.bw) (i := k) (.inr (.inr rfl)) (.string s))
          have HSS := Lib.hid (Mt.str_self s)
          clear h e e2 hoff f fw nw hi hr hs c0
          generalize d.lasts.length = n at *
          generalize ({ d with waits := d.waits.set k (some s.data.toList) } : Mt.Dk) = q at *
          have HS' : Hid (IsR (w.setCell ⟨g.bw, k, none⟩ (.string s)) g t q) := Lib.hid (by
            have h := HS.out
            have e : wtxt (some s.data.toList) = s := HSS.out
            rw [e] at h; exact h)
          clear HS HSS
          go_enter Try.func47, Try.ntmps47
          go_wp2_with fail
          refine (HRM.out).mono ?_
          rintro e w' ⟨rfl, rfl⟩
          go_upto_region 8 with fail
          have HFA := Lib.hid (efails_any HS'.out ht)
          generalize (w.setCell ⟨g.bw, k, none⟩ (.string s)) = u at *
          clear c4 n0 n1 cw fw' HS'
          rcases Mt.count2 q with hq | hq
          · have HQ := Lib.hid hq
            have hb : (q.count.2 == 10) = false := by rw [hq]; rfl
            rw [hb] at HFA
            clear hq hb
            go_wp2_with fail
            refine (HFA.out).mono ?_
            rintro e w' ⟨rfl, hd, hf⟩
            have HX := Lib.hid (And.intro hd (HF.out.trans hf))
            clear hd hf
            go_wp2_with fail
            go_ret
            exact ⟨Mt.ret_int (by rw [HQ.out]), HX.out⟩
          · have HQ := Lib.hid hq
            have hb : (q.count.2 == 10) = true := by rw [hq]; rfl
            rw [hb] at HFA
            clear hq hb
            go_wp2_with fail
            refine (HFA.out).mono ?_
            rintro e w' ⟨rfl, hd, hf⟩
            have HX := Lib.hid (And.intro hd (HF.out.trans hf))
            clear hd hf
            go_wp2_with fail
            go_ret
            exact ⟨Mt.ret_int (by rw [HQ.out]), HX.out⟩
        · have e2 : d.write k s.data.toList = (d, 11) := by unfold Mt.Dk.write; rw [if_pos e, if_pos (show s.data.toList.length = 128 from hs), if_neg hr]
          rw [e2]
          have hr' : (d.room : Int) ≤ (k : Int) := by omega
          clear h e e2 hoff f hi hr hs
          generalize d.lasts.length = n at *
          generalize d.room = r at *
          go_enter Try.func47, Try.ntmps47
          go_wp2_with fail
          refine (HRM.out).mono ?_
          rintro e w' ⟨rfl, rfl⟩
          go_wp2_with fail
          go_ret
          exact ⟨rfl, HD.out.mono (by omega), Fr.refl _ _⟩
      · have hs' : ((s.size : Int) != 128) = true := by simp; omega
        have e2 : d.write k s.data.toList = (d, 2) := by unfold Mt.Dk.write; rw [if_pos e, if_neg (show ¬ s.data.toList.length = 128 from hs)]
        rw [e2]
        clear h e e2 hoff f hi hs
        generalize d.lasts.length = n at *
        go_enter Try.func47, Try.ntmps47
        go_wp2
        go_ret
        exact ⟨rfl, HD.out.mono (by omega), Fr.refl _ _⟩

set_option maxRecDepth 100000 in
theorem ecrash_any (h : IsR w g t d) (hc : Mt.Calm d) (ht : t < 1000) (keep : Nat) (torn at' : Int) (hkp : keep < 18446744073709551616) (hto : -9223372036854775808 ≤ torn ∧ torn ≤ 9223372036854775807) (hat : -9223372036854775808 ≤ at' ∧ at' ≤ 9223372036854775807) :
    Calls Try.prog 43 #[.pointer (some ⟨g.R, 0, none⟩), .agg #[.int .u64 (keep : Int), .int .i64 torn, .int .i64 at']] w fun e w' => e = .returned (.tuple #[]) ∧ IsR w' g (t + 1) (d.crash keep torn at') ∧ Fr g w w' := by
  obtain ⟨_, c4, _, _, _, _, f⟩ := h.cells
  have hlt : g.R < w.heap.size := by
    obtain ⟨_, _, _, _, _, h, _⟩ := h
    exact Nat.lt_of_lt_of_le h.ltR h.size
  have HA := Lib.hid (h.alloc (.cells #[.int .u64 (keep : Int), .int .i64 torn, .int .i64 at'] 30))
  have HF := Lib.hid ((Fr.refl g w).alloc h.size (.cells #[.int .u64 (keep : Int), .int .i64 torn, .int .i64 at'] 30))
  cases hoff : d.off with
  | true =>
    have e : d.crash keep torn at' = d.on := by unfold Mt.Dk.crash; rw [Mt.lose_calm (hc hoff)]
    rw [e]
    rw [hoff] at c4
    clear h hc e hoff f
    go_enter Try.func43, Try.ntmps43
    go_wp2_with fail
    refine (eon_any HA.out).mono ?_
    rintro e w' ⟨rfl, hd, hf⟩
    have HX := Lib.hid (And.intro (hd.mono (show t ≤ t + 1 by omega)) (HF.out.trans hf))
    clear hd hf
    go_wp2_with fail
    refine bodyPost_end (results_none rfl _ _ _) rfl ?_
    exact ⟨rfl, HX.out⟩
  | false =>
    rw [hoff] at c4
    clear h hc hoff f
    have HL := Lib.hid (elose_any HA.out keep torn at' ht hkp hto hat)
    go_enter Try.func43, Try.ntmps43
    go_wp2_with fail
    refine (HL.out).mono ?_
    rintro e w' ⟨rfl, hd, hf⟩
    have HX := Lib.hid (And.intro hd (HF.out.trans hf))
    clear hd hf
    go_wp2_with fail
    refine (eon_any HX.out.1).mono ?_
    rintro e w' ⟨rfl, hd, hf⟩
    have HY := Lib.hid (And.intro hd (HX.out.2.trans hf))
    clear hd hf
    go_wp2_with fail
    refine bodyPost_end (results_none rfl _ _ _) rfl ?_
    exact ⟨rfl, HY.out⟩
end
end Go.Proofs.Ytlknfgomagmpcaa
