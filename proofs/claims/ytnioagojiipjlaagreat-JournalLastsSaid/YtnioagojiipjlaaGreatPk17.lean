/-
  Some texts of one proof, one behind the other.
-/
import Derived.Lib.AppendStr
import Derived.Test.YtnioagojiipjlaaGreatPk16
set_option linter.unusedVariables false
set_option linter.unusedSimpArgs false

/-
  What Write, Crash and Flush of the document's disk come to.
-/
namespace Go.Proofs.YtnioagojiipjlaaGreat
open Go.RowKit Go.Maps

theorem Mt.str_self (s : ByteArray) : Mt.str s.data.toList = s := by cases s; simp [Mt.str]
theorem Mt.count2 (d : Mt.Dk) : d.count.2 = 0 ∨ d.count.2 = 10 := by
  unfold Mt.Dk.count
  split
  · exact .inl rfl
  · split
    · exact .inr rfl
    · exact .inl rfl
/-- Without power nothing waits. -/
def Mt.Calm (d : Mt.Dk) : Prop := d.off = true → d.waits = Mt.noWaits d.lasts.length
theorem Mt.lose_calm {d : Mt.Dk} (h : d.waits = Mt.noWaits d.lasts.length) (keep : Nat) (torn at' : Int) : d.lose keep torn at' = d := by
  unfold Mt.Dk.lose Mt.loseAll
  have e : Mt.wkeys d.waits = [] := by rw [h]; exact Mt.wkeys_none _
  rw [e, ← h]
  show ({ d with tears := d.tears ++ [] } : Mt.Dk) = d
  rw [List.append_nil]

section
variable {w : World} {g : Rg} {d : Mt.Dk} {t : Nat}

set_option maxRecDepth 100000 in
theorem ewrite_any (h : IsR w g t d) (ht : t < 1000000) (i : Int) (s : ByteArray) : Calls Tryz.prog 71 #[.pointer (some ⟨g.R, 0, none⟩), .int .i64 i, .string s] w fun e w' => e = .returned (.int .i64 (d.write i s.data.toList).2) ∧ IsR w' g (t + 1) (d.write i s.data.toList).1 ∧ Fr g w w' := by
  obtain ⟨⟨a, c0⟩, c4, _, _, _, _, f⟩ := h.cells
  have HD := Lib.hid h
  have HRM := Lib.hid (eroom_any h)
  cases hoff : d.off with
  | true =>
    have e : d.ask i = 10 := by unfold Mt.Dk.ask; rw [hoff]; rfl
    have e2 : d.write i s.data.toList = (d, 10) := by unfold Mt.Dk.write; rw [if_neg (by rw [e]; decide), e]
    rw [e2]
    rw [hoff] at c4
    clear h e e2 hoff f c0
    go_enter Tryz.func71, Tryz.ntmps71
    go_wp2
    go_ret
    exact ⟨rfl, HD.out.mono (by omega), Fr.refl _ _⟩
  | false =>
    rw [hoff] at c4
    by_cases hi : i < 0 ∨ (d.lasts.length : Int) ≤ i
    · have e : d.ask i = 2 := by unfold Mt.Dk.ask; rw [hoff]; simp [hi]
      have e2 : d.write i s.data.toList = (d, 2) := by unfold Mt.Dk.write; rw [if_neg (by rw [e]; decide), e]
      rw [e2]
      clear h e e2 hoff f
      generalize d.lasts.length = n at *
      by_cases h1 : i < 0
      · go_enter Tryz.func71, Tryz.ntmps71
        go_wp2
        go_ret
        exact ⟨rfl, HD.out.mono (by omega), Fr.refl _ _⟩
      · have h1' : decide (i < 0) = false := decide_eq_false h1
        have h2 : (n : Int) ≤ i := by omega
        clear hi
        go_enter Tryz.func71, Tryz.ntmps71
        go_wp2
        go_ret
        exact ⟨rfl, HD.out.mono (by omega), Fr.refl _ _⟩
    · have e : d.ask i = 0 := by unfold Mt.Dk.ask; rw [hoff, if_neg hi]; rfl
      obtain ⟨k, rfl⟩ : ∃ k : Nat, i = k := ⟨i.toNat, by omega⟩
      have hk : k < d.lasts.length := by omega
      have h1' : decide ((k : Int) < 0) = false := decide_eq_false (by omega)
      have h2' : decide ((d.lasts.length : Int) ≤ (k : Int)) = false := decide_eq_false (by omega)
      have h3' : (k : Int) < (d.lasts.length : Int) := by omega
      have hk0 : (0 : Int) ≤ (k : Int) := by omega
      by_cases hs : s.size = 128
      · have hs' : ((s.size : Int) != 128) = false := by simp; omega
        by_cases hr : (k : Int) < d.room
        · have e2 : d.write k s.data.toList = ({ d with waits := d.waits.set k (some s.data.toList) } : Mt.Dk).count := by unfold Mt.Dk.write; rw [if_pos e, if_pos (show s.data.toList.length = 128 from hs), if_pos hr, Int.toNat_natCast]
          rw [e2]
          obtain ⟨n0, n1, _, nw, _, fw⟩ := h.cellsN (by omega)
          have cw := nw k hk
          have fw' := fw k
          have hr' : decide ((d.room : Int) ≤ (k : Int)) = false := decide_eq_false (by omega)
          have hrN : ¬ d.room ≤ k := by omega
          have hrD : decide (d.room ≤ k) = false := decide_eq_false hrN
          have HS := Lib.hid (h.setW k hk (some s.data.toList) (fun b hb => by cases hb; exact hs))
          have HF := Lib.hid ((Fr.refl g w).setCell (x := g.bw) (i := k) (.inr (.inr rfl)) (.string s))
          have HSS := Lib.hid (Mt.str_self s)
          clear h e e2 hoff f fw nw hi hr hs c0
          generalize d.lasts.length = n at *
          generalize ({ d with waits := d.waits.set k (some s.data.toList) } : Mt.Dk) = q at *
          have HS' : Hid (IsR (w.setCell ⟨g.bw, k, none⟩ (.string s)) g t q) := Lib.hid (by
            have h := HS.out
            have e : wtxt (some s.data.toList) = s := HSS.out
            rw [e] at h; exact h)
          clear HS HSS
          go_enter Tryz.func71, Tryz.ntmps71
          go_wp2_with fail
          refine (HRM.out).mono ?_
          rintro e w' ⟨rfl, rfl⟩
          go_upto_region 8 with fail
          have HFA := Lib.hid (efails_any HS'.out ht)
          generalize (w.setCell ⟨g.bw, k, none⟩ (.string s)) = u at *
          clear c4 n0 n1 cw fw' HS'
          rcases Mt.count2 q with hq | hq
          · have HQ := Lib.hid hq
            have hb : (q.count.2 == 10) = false := by rw [hq]; rfl
            rw [hb] at HFA
            clear hq hb
            go_wp2_with fail
            refine (HFA.out).mono ?_
            rintro e w' ⟨rfl, hd, hf⟩
            have HX := Lib.hid (And.intro hd (HF.out.trans hf))
            clear hd hf
            go_wp2_with fail
            go_ret
            exact ⟨Mt.ret_int (by rw [HQ.out]), HX.out⟩
          · have HQ := Lib.hid hq
            have hb : (q.count.2 == 10) = true := by rw [hq]; rfl
            rw [hb] at HFA
            clear hq hb
            go_wp2_with fail
            refine (HFA.out).mono ?_
            rintro e w' ⟨rfl, hd, hf⟩
            have HX := Lib.hid (And.intro hd (HF.out.trans hf))
            clear hd hf
            go_wp2_with fail
            go_ret
            exact ⟨Mt.ret_int (by rw [HQ.out]), HX.out⟩
        · have e2 : d.write k s.data.toList = (d, 11) := by unfold Mt.Dk.write; rw [if_pos e, if_pos (show s.data.toList.length = 128 from hs), if_neg hr]
          rw [e2]
          have hr' : (d.room : Int) ≤ (k : Int) := by omega
          clear h e e2 hoff f hi hr hs
          generalize d.lasts.length = n at *
          generalize d.room = r at *
          go_enter Tryz.func71, Tryz.ntmps71
          go_wp2_with fail
          refine (HRM.out).mono ?_
          rintro e w' ⟨rfl, rfl⟩
          go_wp2_with fail
          go_ret
          exact ⟨rfl, HD.out.mono (by omega), Fr.refl _ _⟩
      · have hs' : ((s.size : Int) != 128) = true := by simp; omega
        have e2 : d.write k s.data.toList = (d, 2) := by unfold Mt.Dk.write; rw [if_pos e, if_neg (show ¬ s.data.toList.length = 128 from hs)]
        rw [e2]
        clear h e e2 hoff f hi hs
        generalize d.lasts.length = n at *
        go_enter Tryz.func71, Tryz.ntmps71
        go_wp2
        go_ret
        exact ⟨rfl, HD.out.mono (by omega), Fr.refl _ _⟩

set_option maxRecDepth 100000 in
theorem ecrash_any (h : IsR w g t d) (hc : Mt.Calm d) (ht : t < 1000000) (keep : Nat) (torn at' : Int) (hkp : keep < 18446744073709551616) (hto : -9223372036854775808 ≤ torn ∧ torn ≤ 9223372036854775807) (hat : -9223372036854775808 ≤ at' ∧ at' ≤ 9223372036854775807) :
    Calls Tryz.prog 21 #[.pointer (some ⟨g.R, 0, none⟩), .agg #[.int .u64 (keep : Int), .int .i64 torn, .int .i64 at']] w fun e w' => e = .returned (.tuple #[]) ∧ IsR w' g (t + 1) (d.crash keep torn at') ∧ Fr g w w' := by
  obtain ⟨_, c4, _, _, _, _, f⟩ := h.cells
  have hlt : g.R < w.heap.size := by
    obtain ⟨_, _, _, _, _, h, _⟩ := h
    exact Nat.lt_of_lt_of_le h.ltR h.size
  have HA := Lib.hid (h.alloc (.cells #[.int .u64 (keep : Int), .int .i64 torn, .int .i64 at'] 42))
  have HF := Lib.hid ((Fr.refl g w).alloc h.size (.cells #[.int .u64 (keep : Int), .int .i64 torn, .int .i64 at'] 42))
  cases hoff : d.off with
  | true =>
    have e : d.crash keep torn at' = d.on := by unfold Mt.Dk.crash; rw [Mt.lose_calm (hc hoff)]
    rw [e]
    rw [hoff] at c4
    clear h hc e hoff f
    go_enter Tryz.func21, Tryz.ntmps21
    go_wp2_with fail
    refine (eon_any HA.out).mono ?_
    rintro e w' ⟨rfl, hd, hf⟩
    have HX := Lib.hid (And.intro (hd.mono (show t ≤ t + 1 by omega)) (HF.out.trans hf))
    clear hd hf
    go_wp2_with fail
    refine bodyPost_end (results_none rfl _ _ _) rfl ?_
    exact ⟨rfl, HX.out⟩
  | false =>
    rw [hoff] at c4
    clear h hc hoff f
    have HL := Lib.hid (elose_any HA.out keep torn at' ht hkp hto hat)
    go_enter Tryz.func21, Tryz.ntmps21
    go_wp2_with fail
    refine (HL.out).mono ?_
    rintro e w' ⟨rfl, hd, hf⟩
    have HX := Lib.hid (And.intro hd (HF.out.trans hf))
    clear hd hf
    go_wp2_with fail
    refine (eon_any HX.out.1).mono ?_
    rintro e w' ⟨rfl, hd, hf⟩
    have HY := Lib.hid (And.intro hd (HX.out.2.trans hf))
    clear hd hf
    go_wp2_with fail
    refine bodyPost_end (results_none rfl _ _ _) rfl ?_
    exact ⟨rfl, HY.out⟩
end
end Go.Proofs.YtnioagojiipjlaaGreat

/-
  What Flush of the document's disk comes to.
-/
namespace Go.Proofs.YtnioagojiipjlaaGreat
open Go.RowKit Go.Maps

/-- What lasts in the midst of a flush. -/
def Mt.fl (L : List (List UInt8)) (W : List (Option (List UInt8))) (k : Nat) : List (List UInt8) := (Mt.over L W).take k ++ L.drop k
theorem Mt.over_get {L : List (List UInt8)} {W : List (Option (List UInt8))} {k : Nat} (h : W.length = L.length) (hk : k < L.length) : (Mt.over L W).take (k + 1) = (Mt.over L W).take k ++ [(W.getD k none).getD (L.getD k [])] := by
  have hl : k < (Mt.over L W).length := by rw [Mt.over_length _ _ h]; exact hk
  have hw : k < W.length := by omega
  rw [List.take_succ_eq_append_getElem hl]
  congr 2
  simp only [Mt.over, List.getElem_zipWith]
  rw [List.getD_eq_getElem?_getD, List.getD_eq_getElem?_getD, List.getElem?_eq_getElem hk, List.getElem?_eq_getElem hw]
  rfl
theorem Mt.fl_some {L : List (List UInt8)} {W : List (Option (List UInt8))} {k : Nat} {b : List UInt8} (h : W.length = L.length) (hk : k < L.length) (hb : W.getD k none = some b) : (Mt.fl L W k).set k b = Mt.fl L W (k + 1) := by
  unfold Mt.fl
  have hl : ((Mt.over L W).take k).length = k := by rw [List.length_take, Mt.over_length _ _ h]; omega
  rw [Mt.mix_set _ _ k _ hl hk, Mt.over_get h hk, hb]
  rfl
theorem Mt.fl_none {L : List (List UInt8)} {W : List (Option (List UInt8))} {k : Nat} (h : W.length = L.length) (hk : k < L.length) (hb : W.getD k none = none) : Mt.fl L W k = Mt.fl L W (k + 1) := by
  unfold Mt.fl
  rw [Mt.over_get h hk, hb, List.drop_eq_getElem_cons hk, List.append_assoc]
  congr 1
  rw [List.getD_eq_getElem?_getD, List.getElem?_eq_getElem hk]
  rfl
theorem Mt.fl_len {L : List (List UInt8)} {W : List (Option (List UInt8))} {k : Nat} (h : W.length = L.length) (hk : k ≤ L.length) : (Mt.fl L W k).length = L.length := by
  unfold Mt.fl
  rw [List.length_append, List.length_take, List.length_drop, Mt.over_length _ _ h]; omega
def Mt.Dk.fmid (d : Mt.Dk) (k : Nat) : Mt.Dk := { d with lasts := Mt.fl d.lasts d.waits k, waits := Mt.wr d.waits k }
theorem Mt.fmid_zero (d : Mt.Dk) : d.fmid 0 = d := by unfold Mt.Dk.fmid Mt.fl Mt.wr; simp
theorem Mt.fmid_all (d : Mt.Dk) (h : d.Ok) : d.fmid d.lasts.length = d.flushed := by
  unfold Mt.Dk.fmid Mt.fl Mt.Dk.flushed
  have e : Mt.wr d.waits d.lasts.length = Mt.noWaits d.lasts.length := by rw [← h.len]; exact Mt.wr_all _
  rw [e, List.drop_length, List.append_nil, List.take_of_length_le (by rw [Mt.over_length _ _ h.len]; exact Nat.le_refl _)]
theorem Mt.fmid_len (d : Mt.Dk) (h : d.Ok) (k : Nat) (hk : k ≤ d.lasts.length) : (d.fmid k).lasts.length = d.lasts.length := Mt.fl_len h.len hk

section
variable {w : World} {g : Rg} {d : Mt.Dk} {t : Nat}

set_option maxHeartbeats 1000000 in
set_option maxRecDepth 100000 in
theorem eflush_any (h : IsR w g t d) (ht : t < 1000000) : Calls Tryz.prog 72 #[.pointer (some ⟨g.R, 0, none⟩)] w fun e w' => e = .returned (.int .i64 d.flush.2) ∧ IsR w' g (t + 1) d.flush.1 ∧ Fr g w w' := by
  obtain ⟨⟨a, c0⟩, c4, _, _, _, _, f⟩ := h.cells
  have HD := Lib.hid h
  have HFA := Lib.hid (efails_any h ht)
  cases hoff : d.off with
  | true =>
    have e : d.flush = (d, 10) := by unfold Mt.Dk.flush; rw [hoff]; rfl
    rw [e]
    rw [hoff] at c4
    clear h e hoff f c0
    go_enter Tryz.func72, Tryz.ntmps72
    go_wp2
    go_ret
    exact ⟨rfl, HD.out.mono (by omega), Fr.refl _ _⟩
  | false =>
    rw [hoff] at c4
    rcases Mt.count2 d with hq | hq
    · have e : d.flush = (d.count.1.flushed, 0) := by unfold Mt.Dk.flush; rw [hoff, if_pos hq]; rfl
      rw [e]
      have hb : (d.count.2 == 10) = false := by rw [hq]; rfl
      rw [hb] at HFA
      generalize d.count.1 = q at *
      clear h e hoff f c0 hq hb HD
      go_enter Tryz.func72, Tryz.ntmps72
      go_wp2_with fail
      refine (HFA.out).mono ?_
      rintro e w2 ⟨rfl, hd, hf⟩
      have HD := Lib.hid hd
      have HF := Lib.hid hf
      obtain ⟨⟨a, c0⟩, _, _, _, _, _, _⟩ := hd.cells
      obtain ⟨n, hn⟩ : ∃ n, q.lasts.length = n := ⟨_, rfl⟩
      have HN := Lib.hid hn
      rw [hn] at c0
      have hn8 : n ≤ 8192 := by rw [← hn]; exact hd.ok.most
      clear hd hf HFA hn c4
      go_wp2_with fail
      go_loopw [3, 17] (fun _ i wr => ∃ k : Nat, k ≤ n ∧ i = .int .i64 k ∧ Hid (IsR wr g (t + 1) (q.fmid k)) ∧ Hid (Fr g w wr))
        (fun _ i _ => n - (intOf i).toNat)
      case atStart => exact ⟨0, by omega, rfl, by simpa [Mt.fmid_zero] using HD, HF⟩
      case round =>
        clear c0 HF
        obtain ⟨k, hk, rfl, HDK, HFK⟩ := hrel
        by_cases hkn : k < n
        · have hki : (k : Int) < (n : Int) := by omega
          have hk0 : (0 : Int) ≤ (k : Int) := by omega
          have HLN : Hid ((q.fmid k).lasts.length = n) := Lib.hid (by rw [Mt.fmid_len q HD.out.ok k (by rw [HN.out]; exact hk), HN.out])
          have hkl : k < (q.fmid k).lasts.length := by rw [HLN.out]; exact hkn
          have HKL := Lib.hid hkl
          obtain ⟨c0, c1, ncl, ncw, nfl, nfw⟩ := HDK.out.cellsN (by omega)
          rw [HLN.out] at c0 c1
          have cl := ncl k hkl
          have cw := ncw k hkl
          have fl := nfl k
          have fw := nfw k
          clear ncl ncw nfl nfw hkl
          have hwk : waitT (q.fmid k) k = wtxt (q.waits.getD k none) := by unfold waitT; exact congrArg wtxt Mt.wr_get
          rw [hwk] at cw
          clear hwk
          cases hx : q.waits.getD k none with
          | none =>
            rw [hx] at cw
            have cw' : wr.cell? ⟨g.bw, k, none⟩ = some (.string ByteArray.empty) := cw
            have HEND : Hid (IsR (wr.setCell ⟨g.bw, k, none⟩ (.string ByteArray.empty)) g (t + 1) (q.fmid (k + 1))) := Lib.hid (by
              have h2 := HDK.out.setW k HKL.out none (fun b hb => by cases hb)
              have e : ({ q.fmid k with waits := (q.fmid k).waits.set k none } : Mt.Dk) = q.fmid (k + 1) := by
                unfold Mt.Dk.fmid
                dsimp only
                rw [Mt.wr_set (by rw [HD.out.ok.len, HN.out]; exact hkn), Mt.fl_none HD.out.ok.len (by rw [HN.out]; exact hkn) hx]
              rw [e] at h2
              exact h2)
            clear cw hx
            go_wp2_with fail
            go_roundw
            case rel => exact ⟨k + 1, by omega, by go_num, HEND, Lib.hid (HFK.out.setCell (.inr (.inr rfl)) _)⟩
            case measure => simp [intOf]; omega
          | some b =>
            rw [hx] at cw
            have cw' : wr.cell? ⟨g.bw, k, none⟩ = some (.string (Mt.str b)) := cw
            have hb : b.length = 128 := HD.out.ok.waits k b (by
              have hl : k < q.waits.length := by rw [HD.out.ok.len, HN.out]; exact hkn
              rw [List.getElem?_eq_getElem hl]
              simpa [List.getD, List.getElem?_eq_getElem hl] using hx)
            have hne := str_empty hb
            have HS := Lib.hid (HDK.out.setL k HKL.out b hb)
            have HEND : Hid (∀ u, IsR u g (t + 1) { q.fmid k with lasts := (q.fmid k).lasts.set k b } → IsR (u.setCell ⟨g.bw, k, none⟩ (.string ByteArray.empty)) g (t + 1) (q.fmid (k + 1))) := Lib.hid (by
              intro u hu
              have h2 := hu.setW k (by show k < ((q.fmid k).lasts.set k b).length; rw [List.length_set]; exact HKL.out) none (fun b hb => by cases hb)
              have e : ({ q.fmid k with lasts := (q.fmid k).lasts.set k b, waits := (q.fmid k).waits.set k none } : Mt.Dk) = q.fmid (k + 1) := by
                unfold Mt.Dk.fmid
                dsimp only
                rw [Mt.wr_set (by rw [HD.out.ok.len, HN.out]; exact hkn), Mt.fl_some HD.out.ok.len (by rw [HN.out]; exact hkn) hx]
              rw [← e]
              exact h2)
            have HF2 := Lib.hid ((HFK.out.setCell (x := g.bl) (i := k) (.inr (.inl rfl)) (.string (Mt.str b))).drew)
            have HS2 : Hid (IsR (wr.setCell ⟨g.bl, k, none⟩ (.string (Mt.str b))).drew g (t + 1) { q.fmid k with lasts := (q.fmid k).lasts.set k b }) := Lib.hid HS.out.drew
            have HKL2 : Hid (k < ((q.fmid k).lasts.set k b).length) := Lib.hid (by rw [List.length_set]; exact HKL.out)
            have HLN2 : Hid (((q.fmid k).lasts.set k b).length = n) := Lib.hid (by rw [List.length_set]; exact HLN.out)
            clear cw hx hb HS
            go_upto_region 7 with fail
            refine wp_region_still_tail 13 (by kernel_rfl) (by kernel_rfl) ?_
            simp only [List.take_succ_cons, List.take_zero, List.drop_succ_cons, List.drop_zero]
            repeat still_step
            refine wpStill_nil ?_
            change wpList _ _ _ _ _ wr.drew
            go_upto_region 8 with fail
            generalize (wr.setCell ⟨g.bl, k, none⟩ (.string (Mt.str b))).drew = u at *
            clear c0 c1 cl cw' fl fw HDK HFK
            obtain ⟨c0, c1, ncl, ncw, nfl, nfw⟩ := HS2.out.cellsN (by have := HKL2.out; show ((q.fmid k).lasts.set k b).length ≠ 0; omega)
            dsimp only at c0 c1
            rw [HLN2.out] at c0 c1
            have cw := ncw k HKL2.out
            have fw := nfw k
            clear ncl ncw nfl nfw
            go_wp2_with fail
            go_roundw
            case rel => exact ⟨k + 1, by omega, by go_num, Lib.hid (HEND.out _ HS2.out), Lib.hid (HF2.out.setCell (.inr (.inr rfl)) _)⟩
            case measure => simp [intOf]; omega
        · obtain rfl : k = n := by omega
          go_wp2_with fail
          go_ret
          refine ⟨rfl, ?_, HFK.out⟩
          rw [← Mt.fmid_all q HD.out.ok, HN.out]
          exact HDK.out
    · have e : d.flush = (d.count.1, 10) := by
        unfold Mt.Dk.flush; rw [hoff, if_neg Bool.false_ne_true, if_neg (by rw [hq]; decide)]
        exact Prod.ext rfl hq
      rw [e]
      have hb : (d.count.2 == 10) = true := by rw [hq]; rfl
      rw [hb] at HFA
      generalize d.count.1 = q at *
      clear h e hoff f c0 hq hb HD
      go_enter Tryz.func72, Tryz.ntmps72
      go_wp2_with fail
      refine (HFA.out).mono ?_
      rintro e w2 ⟨rfl, hd, hf⟩
      have HX := Lib.hid (And.intro hd hf)
      clear hd hf
      go_wp2_with fail
      go_ret
      exact ⟨rfl, HX.out⟩
end
end Go.Proofs.YtnioagojiipjlaaGreat

/-
  What Image and Lay of the document's disk come to.
-/
namespace Go.Proofs.YtnioagojiipjlaaGreat
open Go.RowKit Go.Maps

theorem strCells_cs (L : List UInt8) : Lib.strCells (Mt.str L) = Mt.cs L := by
  simp [Lib.strCells, Mt.cs, Mt.str_data]
theorem conv_nil0 (w : World) : (convert 73 9 (.slice none 0 0)).run Tryz.prog w = .ok (.string ByteArray.empty) w := by kernel_rfl
section
variable {w : World} {g : Rg} {d : Mt.Dk} {t : Nat}

set_option maxHeartbeats 1000000 in
set_option maxRecDepth 100000 in
theorem eimage_any (h : IsR w g t d) : Calls Tryz.prog 15 #[.pointer (some ⟨g.R, 0, none⟩)] w fun e w' => e = .returned (.string (Mt.str d.image)) ∧ Below w.heap.size w w' := by
  obtain ⟨i0, hi, hz0, hz1, hz2⟩ := info_parts Tryz.infoU8
  obtain ⟨⟨a, c0⟩, _, _, _, _, _, _⟩ := h.cells
  have HD := Lib.hid h
  obtain ⟨n, hn⟩ : ∃ n, d.lasts.length = n := ⟨_, rfl⟩
  have HN := Lib.hid hn
  have hn8 : n ≤ 8192 := by rw [← hn]; exact h.ok.most
  have HA : Hid (n ≠ 0 → a = some ⟨g.bl, 0, none⟩) := Lib.hid (fun h0 => by
    have h2 := (h.cellsN (by rw [hn]; exact h0)).1
    rw [c0] at h2
    injection h2 with h2
    injection h2)
  rw [hn] at c0
  clear hn h
  go_enter Tryz.func15, Tryz.ntmps15
  go_wp2_with fail
  go_loopw [3, 5, 11] (fun v _ i wr => ∃ k : Nat, k ≤ n ∧ i = .int .i64 k ∧ Hid (wr.ownsRow w.heap.size 5 1 v (k * 128) (Mt.cs (d.lasts.take k).flatten)) ∧ Hid (Below w.heap.size w wr) ∧ Hid (k = 0 → v = .slice none 0 0))
    (fun _ _ i _ => n - (intOf i).toNat)
  case atStart => exact ⟨0, by omega, rfl, Lib.hid (World.ownsRow_nil _ _ _ _), Lib.hid (Below.refl _ _), Lib.hid (fun _ => rfl)⟩
  case round =>
    clear c0
    obtain ⟨k, hk, rfl, HO, HB, HNIL⟩ := hrel
    by_cases hkn : k < n
    · obtain rfl := HA.out (by omega)
      have hki : (k : Int) < (n : Int) := by omega
      have hk0 : (0 : Int) ≤ (k : Int) := by omega
      have hkl : k < d.lasts.length := by rw [HN.out]; exact hkn
      have cl : wr.cell? ⟨g.bl, k, none⟩ = some (.string (Mt.str (d.lasts[k]))) := by
        have h := (HD.out.below HB.out).cellsN (by omega)
        rw [h.2.2.1 k hkl]
        unfold lastT
        rw [List.getD_eq_getElem?_getD, List.getElem?_eq_getElem hkl]; rfl
      have HLS := Lib.hid (HD.out.ok.lasts k hkl)
      have HFT := Lib.hid (Mt.flatten_take d.lasts k hkl)
      have HSZ : Hid ((Mt.str (d.lasts[k])).size = 128) := Lib.hid (by rw [Mt.str_size]; exact HLS.out)
      go_wp2_with (at_builtin; go_must (refine Lib.wpList_append_own_string _ rfl _ _ 73 9 rfl w.heap.size 5 i0 Tryz.underlying73 Tryz.underlying9 hi hz0 hz1 hz2 u3 (k * 128) _ rfl HO.out (Mt.str (d.lasts[k])) rfl (by rw [HSZ.out]; unfold maxLen; omega) (by rw [HSZ.out]; omega) HB.out.size ?_); intro v2 w2 hown2 hgr2 _)
      rw [HSZ.out, strCells_cs, ← Mt.cs_append, ← HFT.out, show k * 128 + 128 = (k + 1) * 128 by omega] at hown2
      have HO2 := Lib.hid hown2
      have HB2 := Lib.hid (HB.out.grown hgr2 HB.out.size (fun j hj => (HO.out.lt j hj).1))
      clear hown2 hgr2 HO HB HFT cl
      go_roundw
      case rel => exact ⟨k + 1, by omega, by go_num, HO2, HB2, Lib.hid (fun h => by omega)⟩
      case measure => simp [intOf]; omega
    · obtain rfl : k = n := by omega
      rcases Nat.eq_zero_or_pos k with h0 | h0
      · subst h0
        obtain rfl := HNIL.out rfl
        have HE : Hid (Mt.str d.image = ByteArray.empty) := Lib.hid (by
          have : d.lasts = [] := List.eq_nil_of_length_eq_zero HN.out
          unfold Mt.Dk.image
          rw [this]; rfl)
        clear HO
        have hcv := conv_nil0 wr
        go_wp2_with fail
        go_ret
        exact ⟨by rw [HE.out]; rfl, HB.out⟩
      · obtain ⟨g', cap, rfl⟩ := own_form HO.out (by omega)
        have HCV : Hid ((convert 73 9 (.slice (some ⟨g', 0, none⟩) (k * 128) cap)).run Tryz.prog wr = .ok (.string (Mt.str d.image)) wr) := Lib.hid (by
          have hl : d.image.length = k * 128 := by rw [Mt.Dk.image_length HD.out.ok, HN.out]; omega
          have h := run_convert_bytes_back (P := Tryz.prog) wr 73 9 5 ⟨g', 0, none⟩ cap d.image Tryz.underlying73 Tryz.underlying5 Tryz.underlying9 (fun j hj => by
            rw [add_off, Nat.zero_add, HO.out.cellAt j (by omega)]
            have e : (d.lasts.take k).flatten = d.image := by rw [← HN.out, List.take_length]; rfl
            rw [e]
            simp [Mt.cs, List.getElem?_eq_getElem hj])
          rw [hl] at h
          exact h)
        have hcv := HCV.out
        clear HCV HO
        go_wp2_with fail
        go_ret
        exact ⟨rfl, HB.out⟩
end
end Go.Proofs.YtnioagojiipjlaaGreat

/-
  What Lay of the document's disk comes to.
-/
namespace Go.Proofs.YtnioagojiipjlaaGreat
open Go.RowKit Go.Maps

def Mt.Dk.lmid (d : Mt.Dk) (s : List UInt8) (k : Nat) : Mt.Dk := { d with lasts := Mt.layL k s ++ d.lasts.drop k, waits := Mt.wr d.waits k }
theorem Mt.lmid_zero (d : Mt.Dk) (s : List UInt8) : d.lmid s 0 = d := by unfold Mt.Dk.lmid Mt.wr; simp [Mt.layL]
theorem Mt.lmid_all (d : Mt.Dk) (h : d.Ok) (s : List UInt8) : d.lmid s d.lasts.length = d.lay s := by
  unfold Mt.Dk.lmid Mt.Dk.lay
  have e : Mt.wr d.waits d.lasts.length = Mt.noWaits d.lasts.length := by rw [← h.len]; exact Mt.wr_all _
  rw [e, List.drop_length, List.append_nil]
theorem Mt.lmid_len (d : Mt.Dk) (s : List UInt8) (k : Nat) (hk : k ≤ d.lasts.length) : (d.lmid s k).lasts.length = d.lasts.length := by
  unfold Mt.Dk.lmid
  show (Mt.layL k s ++ d.lasts.drop k).length = _
  rw [List.length_append, Mt.layL_length, List.length_drop]; omega
theorem Mt.lmid_step (d : Mt.Dk) (h : d.Ok) (s : List UInt8) (k : Nat) (hk : k < d.lasts.length) (S : List UInt8) (hS : S = s.drop (128 * k)) :
    ({ d.lmid s k with lasts := (d.lmid s k).lasts.set k (Mt.sec1 S), waits := (d.lmid s k).waits.set k none } : Mt.Dk) = d.lmid s (k + 1) := by
  unfold Mt.Dk.lmid
  dsimp only
  rw [Mt.wr_set (by rw [h.len]; exact hk), Mt.mix_set _ _ k _ (Mt.layL_length _ _) hk, Mt.layL_snoc, hS]

section
variable {w : World} {g : Rg} {d : Mt.Dk} {t : Nat}

set_option maxHeartbeats 1000000 in
set_option maxRecDepth 100000 in
theorem elay_any (h : IsR w g t d) (s : ByteArray) (hs : s.size ≤ 1000000) : Calls Tryz.prog 10 #[.pointer (some ⟨g.R, 0, none⟩), .string s] w fun e w' => e = .returned (.tuple #[]) ∧ IsR w' g t (d.lay s.data.toList) ∧ Fr g w w' := by
  obtain ⟨⟨a, c0⟩, _, _, _, _, _, _⟩ := h.cells
  have HD := Lib.hid h
  obtain ⟨n, hn⟩ : ∃ n, d.lasts.length = n := ⟨_, rfl⟩
  have HN := Lib.hid hn
  have hn8 : n ≤ 8192 := by rw [← hn]; exact h.ok.most
  rw [hn] at c0
  clear hn h
  go_enter Tryz.func10, Tryz.ntmps10
  go_wp2_with fail
  go_loopw [1, 4, 5, 11] (fun v _ _ i wr => ∃ (k : Nat) (S : ByteArray), k ≤ n ∧ i = .int .i64 k ∧ v = .string S ∧ Hid (S.data.toList = s.data.toList.drop (128 * k)) ∧ Hid (IsR wr g t (d.lmid s.data.toList k)) ∧ Hid (Fr g w wr))
    (fun _ _ _ i _ => n - (intOf i).toNat)
  case atStart => exact ⟨0, s, by omega, rfl, rfl, Lib.hid (by simp), by simpa [Mt.lmid_zero] using HD, Lib.hid (Fr.refl _ _)⟩
  case round =>
    clear c0
    obtain ⟨k, S, hk, rfl, rfl, HS, HDK, HFK⟩ := hrel
    by_cases hkn : k < n
    · have hki : (k : Int) < (n : Int) := by omega
      have hk0 : (0 : Int) ≤ (k : Int) := by omega
      have HLN : Hid ((d.lmid s.data.toList k).lasts.length = n) := Lib.hid (by rw [Mt.lmid_len d _ k (by rw [HN.out]; exact hk), HN.out])
      have hkl : k < (d.lmid s.data.toList k).lasts.length := by rw [HLN.out]; exact hkn
      have HKL := Lib.hid hkl
      obtain ⟨c0, c1, ncl, ncw, nfl, nfw⟩ := HDK.out.cellsN (by omega)
      rw [HLN.out] at c0 c1
      have cl := ncl k hkl
      have fl := nfl k
      clear ncl ncw nfl nfw hkl c1
      obtain ⟨m, hm⟩ : ∃ m, Nat.min S.size 128 = m := ⟨_, rfl⟩
      have hm1 : m ≤ S.size := by rw [← hm]; exact Nat.min_le_left _ _
      have hm2 : (m : Int) ≤ (S.size : Int) := by omega
      have hm128 : m ≤ 128 := by rw [← hm]; exact Nat.min_le_right _ _
      have hmin : min (S.size : Int) 128 = (m : Int) := by
        have : Nat.min S.size 128 = min S.size 128 := rfl
        rw [this] at hm; omega
      have hm0 : (0 : Int) ≤ (m : Int) := by omega
      have HS2 : Hid ((S.extract m S.size).data.toList = s.data.toList.drop (128 * (k + 1))) := Lib.hid (by
        rw [Mt.extract_list, HS.out, List.drop_drop]
        have hl : S.size = s.data.toList.length - 128 * k := by
          have h := congrArg List.length HS.out
          rw [List.length_drop] at h
          exact h
        rcases Nat.le_total S.size 128 with h1 | h1
        · have e : m = S.size := by rw [← hm]; exact Nat.min_eq_left h1
          rw [List.drop_of_length_le (by omega), List.drop_of_length_le (by omega)]
        · have e : m = 128 := by rw [← hm]; exact Nat.min_eq_right h1
          rw [e]; congr 1)
      obtain ⟨Z, hZ⟩ : ∃ Z, Mt.str (List.replicate (128 - m) 0) = Z := ⟨_, rfl⟩
      have hZs : Z.size = 128 - m := by rw [← hZ, Mt.str_size, List.length_replicate]
      have HE : Hid ((S.extract 0 m) ++ Z = Mt.str (Mt.sec1 S.data.toList)) := Lib.hid (by
        have hb : ∀ a b : ByteArray, a.data.toList = b.data.toList → a = b := fun a b h => by
          cases a; cases b
          simp only at h
          congr 1
          exact Array.toList_inj.1 h
        apply hb
        have hl : S.data.toList.length = S.size := rfl
        rw [ByteArray.data_append, Array.toList_append, ByteArray.data_extract, Array.toList_extract, List.extract_eq_take_drop, List.drop_zero, Nat.sub_zero, Mt.str_data, ← hZ, Mt.str_data]
        unfold Mt.sec1
        rcases Nat.le_total S.size 128 with h1 | h1
        · have e : m = S.size := by rw [← hm]; exact Nat.min_eq_left h1
          rw [List.take_of_length_le (by omega), List.take_of_length_le (by omega), hl, e]
        · have e : m = 128 := by rw [← hm]; exact Nat.min_eq_right h1
          rw [e, hl, show 128 - S.size = 128 - 128 by omega])
      have HBL : Hid (∀ u, Calls Tryz.prog 32 #[.int .i64 (IntKind.i64.wrap (128 - (m : Int)))] u fun e w' => e = .returned (.string Z) ∧ Below u.heap.size u w') := Lib.hid (fun u => by
        have h := blank_any (128 - m) (by omega) u
        have hw : IntKind.i64.wrap (128 - (m : Int)) = ((128 - m : Nat) : Int) := by rw [IntKind.wrap_i64]; omega
        rw [hw]
        rw [hZ] at h
        exact h)
      have hadd := fun wx => run_string_add_sum (w := wx) (P := Tryz.prog) (S.extract 0 m) Z (by rw [hZs]; simp [ByteArray.size_extract]; omega)
      have HKP : Hid (∀ (u : World) v, (u.setCell ⟨g.bl, k, none⟩ v).cell? ⟨g.R, 0, none⟩ = u.cell? ⟨g.R, 0, none⟩) := Lib.hid (fun u v => by
        unfold World.cell?
        rw [heap_setCell_other _ _ _ _ (show g.R ≠ g.bl from by
          obtain ⟨_, _, _, _, _, h, _⟩ := HDK.out
          exact Ne.symm (h.apart (by have := HKL.out; omega)).2.2.2.1)])
      have HC : Hid (∀ u, IsR u g t (d.lmid s.data.toList k) → u.cell? ⟨g.R, 0, none⟩ = some (.slice (some ⟨g.bl, 0, none⟩) n g.cl) ∧ u.cell? ⟨g.bl, k, none⟩ = some (.string (lastT (d.lmid s.data.toList k) k)) ∧ u.frozen? ⟨g.bl, k, none⟩ = false) := Lib.hid (fun u hu => by
        obtain ⟨c0, c1, ncl, ncw, nfl, nfw⟩ := hu.cellsN (by have := HKL.out; omega)
        rw [HLN.out] at c0
        exact ⟨c0, ncl k HKL.out, nfl k⟩)
      clear hm hZ hZs
      go_upto_region 4 with fail
      go_region_held3 (fun w' => w'.cell? ⟨g.R, 0, none⟩ = some (.slice (some ⟨g.bl, 0, none⟩) n g.cl))
        (first
          | go_keep
          | exact c0'
          | (rw [HKP.out]; exact c0'))
        (first | (refine (HBL.out _).mono ?_; rintro e w2 ⟨rfl, hb⟩; have HD2 := Lib.hid (HDK.out.drew.below hb); have HF2 := Lib.hid (HFK.out.drew.below hb); have c0' := (HC.out _ HD2.out).1; have cl' := (HC.out _ HD2.out).2.1; have fl' := (HC.out _ HD2.out).2.2; clear hb))
      rw [HE.out]
      have HS3 := Lib.hid (HD2.out.setL k HKL.out (Mt.sec1 S.data.toList) (Mt.sec1_length _))
      have HF3 := Lib.hid (HF2.out.setCell (x := g.bl) (i := k) (.inr (.inl rfl)) (.string (Mt.str (Mt.sec1 S.data.toList))))
      have HKL2 : Hid (k < ((d.lmid s.data.toList k).lasts.set k (Mt.sec1 S.data.toList)).length) := Lib.hid (by rw [List.length_set]; exact HKL.out)
      have HLN2 : Hid (((d.lmid s.data.toList k).lasts.set k (Mt.sec1 S.data.toList)).length = n) := Lib.hid (by rw [List.length_set]; exact HLN.out)
      have HEND : Hid (∀ u, IsR u g t { d.lmid s.data.toList k with lasts := (d.lmid s.data.toList k).lasts.set k (Mt.sec1 S.data.toList) } → IsR (u.setCell ⟨g.bw, k, none⟩ (.string ByteArray.empty)) g t (d.lmid s.data.toList (k + 1))) := Lib.hid (by
        intro u hu
        have h2 := hu.setW k HKL2.out none (fun b hb => by cases hb)
        rw [← Mt.lmid_step d HD.out.ok s.data.toList k (by rw [HN.out]; exact hkn) S.data.toList HS.out]
        exact h2)
      clear c0' cl' fl' c0 cl fl hadd HE HBL HDK HFK
      generalize (w2.setCell ⟨g.bl, k, none⟩ (.string (Mt.str (Mt.sec1 S.data.toList)))) = u at *
      obtain ⟨c0, c1, ncl, ncw, nfl, nfw⟩ := HS3.out.cellsN (by have := HKL2.out; show ((d.lmid s.data.toList k).lasts.set k (Mt.sec1 S.data.toList)).length ≠ 0; omega)
      dsimp only at c0 c1
      rw [HLN2.out] at c0 c1
      have cw := ncw k HKL2.out
      have fw := nfw k
      clear ncl ncw nfl nfw
      go_wp2_with fail
      go_roundw
      case rel => exact ⟨k + 1, _, by omega, by go_num, rfl, HS2, Lib.hid (HEND.out _ HS3.out), Lib.hid (HF3.out.setCell (.inr (.inr rfl)) _)⟩
      case measure => simp [intOf]; omega
    · obtain rfl : k = n := by omega
      go_wp2_with fail
      refine bodyPost_end (results_none rfl _ _ _) rfl ?_
      refine ⟨rfl, ?_, HFK.out⟩
      rw [← Mt.lmid_all d HD.out.ok, HN.out]
      exact HDK.out
end
end Go.Proofs.YtnioagojiipjlaaGreat
