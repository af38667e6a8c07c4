/-
  What Flush of the document's disk comes to.
-/
import Derived.Test.YtlknfgomagmpcaaDrD
namespace Go.Proofs.Ytlknfgomagmpcaa
open Go.RowKit Go.Maps

/-- What lasts in the midst of a flush. -/
def Mt.fl (L : List (List UInt8)) (W : List (Option (List UInt8))) (k : Nat) : List (List UInt8) := (Mt.over L W).take k ++ L.drop k
theorem Mt.over_get {L : List (List UInt8)} {W : List (Option (List UInt8))} {k : Nat} (h : W.length = L.length) (hk : k < L.length) : (Mt.over L W).take (k + 1) = (Mt.over L W).take k ++ [(W.getD k none).getD (L.getD k [])] := by
  have hl : k < (Mt.over L W).length := by rw [Mt.over_length _ _ h]; exact hk
  have hw : k < W.length := by omega
  rw [List.take_succ_eq_append_getElem hl]
  congr 2
  simp only [Mt.over, List.getElem_zipWith]
  rw [List.getD_eq_getElem?_getD, List.getD_eq_getElem?_getD, List.getElem?_eq_getElem hk, List.getElem?_eq_getElem hw]
  rfl
theorem Mt.fl_some {L : List (List UInt8)} {W : List (Option (List UInt8))} {k : Nat} {b : List UInt8} (h : W.length = L.length) (hk : k < L.length) (hb : W.getD k none = some b) : (Mt.fl L W k).set k b = Mt.fl L W (k + 1) := by
  unfold Mt.fl
  have hl : ((Mt.over L W).take k).length = k := by rw [List.length_take, Mt.over_length _ _ h]; omega
  rw [Mt.mix_set _ _ k _ hl hk, Mt.over_get h hk, hb]
  rfl
theorem Mt.fl_none {L : List (List UInt8)} {W : List (Option (List UInt8))} {k : Nat} (h : W.length = L.length) (hk : k < L.length) (hb : W.getD k none = none) : Mt.fl L W k = Mt.fl L W (k + 1) := by
  unfold Mt.fl
  rw [Mt.over_get h hk, hb, List.drop_eq_getElem_cons hk, List.append_assoc]
  congr 1
  rw [List.getD_eq_getElem?_getD, List.getElem?_eq_getElem hk]
  rfl
theorem Mt.fl_len {L : List (List UInt8)} {W : List (Option (List UInt8))} {k : Nat} (h : W.length = L.length) (hk : k ≤ L.length) : (Mt.fl L W k).length = L.length := by
  unfold Mt.fl
  rw [List.length_append, List.length_take, List.length_drop, Mt.over_length _ _ h]; omega
def Mt.Dk.fmid (d : Mt.Dk) (k : Nat) : Mt.Dk := { d with lasts := Mt.fl d.lasts d.waits k, waits := Mt.wr d.waits k }
theorem Mt.fmid_zero (d : Mt.Dk) : d.fmid 0 = d := by unfold Mt.Dk.fmid Mt.fl Mt.wr; simp
theorem Mt.fmid_all (d : Mt.Dk) (h : d.Ok) : d.fmid d.lasts.length = d.flushed := by
  unfold Mt.Dk.fmid Mt.fl Mt.Dk.flushed
  have e : Mt.wr d.waits d.lasts.length = Mt.noWaits d.lasts.length := by rw [← h.len]; exact Mt.wr_all _
  rw [e, List.drop_length, List.append_nil, List.take_of_length_le (by rw [Mt.over_length _ _ h.len]; exact Nat.le_refl _)]
theorem Mt.fmid_len (d : Mt.Dk) (h : d.Ok) (k : Nat) (hk : k ≤ d.lasts.length) : (d.fmid k).lasts.length = d.lasts.length := Mt.fl_len h.len hk

section
variable {w : World} {g : Rg} {d : Mt.Dk} {t : Nat}

set_option maxHeartbeats 1000000 in
set_option maxRecDepth 100000 in
theorem eflush_any (h : IsR w g t d) (ht : t < 1000) : Calls Try.prog 41 #[.pointer (some ⟨g.R, 0, none⟩)] w fun e w' => e = .returned (.int .i64 d.flush.2) ∧ IsR w' g (t + 1) d.flush.1 ∧ Fr g w w' := by
  obtain ⟨⟨a, c0⟩, c4, _, _, _, _, f⟩ := h.cells
  have HD := Lib.hid h
  have HFA := Lib.hid (efails_any h ht)
  cases hoff : d.off with
  | true =>
    have e : d.flush = (d, 10) := by unfold Mt.Dk.flush; rw [hoff]; rfl
    rw [e]
    rw [hoff] at c4
    clear h e hoff f c0
    go_enter Try.func41, Try.ntmps41
    go_wp2
    go_ret
    exact ⟨rfl, HD.out.mono (by omega), Fr.refl _ _⟩
  | false =>
    rw [hoff] at c4
    rcases Mt.count2 d with hq | hq
    · have e : d.flush = (d.count.1.flushed, 0) := by unfold Mt.Dk.flush; rw [hoff, if_pos hq]; rfl
      rw [e]
      have hb : (d.count.2 == 10) = false := by rw [hq]; rfl
      rw [hb] at HFA
      generalize d.count.1 = q at *
      clear h e hoff f c0 hq hb HD
      go_enter Try.func41, Try.ntmps41
      go_wp2_with fail
      refine (HFA.out).mono ?_
      rintro e w2 ⟨rfl, hd, hf⟩
      have HD := Lib.hid hd
      have HF := Lib.hid hf
      obtain ⟨⟨a, c0⟩, _, _, _, _, _, _⟩ := hd.cells
      obtain ⟨n, hn⟩ : ∃ n, q.lasts.length = n := ⟨_, rfl⟩
      have HN := Lib.hid hn
      rw [hn] at c0
      have hn8 : n ≤ 8192 := by rw [← hn]; exact hd.ok.most
      clear hd hf HFA hn c4
      go_wp2_with fail
      go_loopw [3, 17] (fun _ i wr => ∃ k : Nat, k ≤ n ∧ i = .int .i64 k ∧ Hid (IsR wr g (t + 1) (q.fmid k)) ∧ Hid (Fr g w wr))
        (fun _ i _ => n - (intOf i).toNat)
      case atStart => exact ⟨0, by omega, rfl, by simpa [Mt.fmid_zero] using HD, HF⟩
      case round =>
        clear c0 HF
        obtain ⟨k, hk, rfl, HDK, HFK⟩ := hrel
        by_cases hkn : k < n
        · have hki : (k : Int) < (n : Int) := by omega
          have hk0 : (0 : Int) ≤ (k : Int) := by omega
          have HLN : Hid ((q.fmid k).lasts.length = n) := Lib.hid (by rw [Mt.fmid_len q HD.out.ok k (by rw [HN.out]; exact hk), HN.out])
          have hkl : k < (q.fmid k).lasts.length := by rw [HLN.out]; exact hkn
          have HKL := Lib.hid hkl
          obtain ⟨c0, c1, ncl, ncw, nfl, nfw⟩ := HDK.out.cellsN (by omega)
          rw [HLN.out] at c0 c1
          have cl := ncl k hkl
          have cw := ncw k hkl
          have fl := nfl k
          have fw := nfw k
          clear ncl ncw nfl nfw hkl
          have hwk : waitT (q.fmid k) k = wtxt (q.waits.getD k none) := by unfold waitT; exact congrArg wtxt Mt.wr_get
          rw [hwk] at cw
          clear hwk
          cases hx : q.waits.getD k none with
          | none =>
            rw [hx] at cw
            have cw' : wr.cell? ⟨g.bw, k, none⟩ = some (.string ByteArray.empty) := cw
            have HEND : Hid (IsR (wr.setCell ⟨g.bw, k, none⟩ (.string ByteArray.empty)) g (t + 1) (q.fmid (k + 1))) := Lib.hid (by
              have h2 := HDK.out.setW k HKL.out none (fun b hb => by cases hb)
              have e : ({ q.fmid k with waits := (q.fmid k).waits.set k none } : Mt.Dk) = q.fmid (k + 1) := by
                unfold Mt.Dk.fmid
                dsimp only
                rw [Mt.wr_set (by rw [HD.out.ok.len, HN.out]; exact hkn), Mt.fl_none HD.out.ok.len (by rw [HN.out]; exact hkn) hx]
              rw [e] at h2
              exact h2)
            clear cw hx
            go_wp2_with fail
            go_roundw
            case rel => exact ⟨k + 1, by omega, by go_num, HEND, Lib.hid (HFK.out.setCell (.inr (.inr rfl)) _)⟩
            case measure => simp [intOf]; omega
          | some b =>
            rw [hx] at cw
            have cw' : wr.cell? ⟨g.bw, k, none⟩ = some (.string (Mt.str b)) := cw
            have hb : b.length = 128 := HD.out.ok.waits k b (by
              have hl : k < q.waits.length := by rw [HD.out.ok.len, HN.out]; exact hkn
              rw [List.getElem?_eq_getElem hl]
              simpa [List.getD, List.getElem?_eq_getElem hl] using hx)
            have hne := str_empty hb
            have HS := Lib.hid (HDK.out.setL k HKL.out b hb)
            have HEND : Hid (∀ u, IsR u g (t + 1) { q.fmid k with lasts := (q.fmid k).lasts.set k b } → IsR (u.setCell ⟨g.bw, k, none⟩ (.string ByteArray.empty)) g (t + 1) (q.fmid (k + 1))) := Lib.hid (by
              intro u hu
              have h2 := hu.setW k (by show k < ((q.fmid k).lasts.set k b).length; rw [List.length_set]; exact HKL.out) none (fun b hb => by cases hb)
              have e : ({ q.fmid k with lasts := (q.fmid k).lasts.set k b, waits := (q.fmid k).waits.set k none } : Mt.Dk) = q.fmid (k + 1) := by
                unfold Mt.Dk.fmid
                dsimp only
                rw [Mt.wr_set (by rw [HD.out.ok.len, HN.out]; exact hkn), Mt.fl_some HD.out.ok.len (by rw [HN.out]; exact hkn) hx]
              rw [← e]
              exact h2)
            have HF2 := Lib.hid ((HFK.out.setCell (x := g.bl) (i := k) (.inr (.inl rfl)) (.string (Mt.str b))).drew)
            have HS2 : Hid (IsR (wr.setCell ⟨g.bl, k, none⟩ (.string (Mt.str b))).drew g (t + 1) { q.fmid k with lasts := (q.fmid k).lasts.set k b }) := Lib.hid HS.out.drew
            have HKL2 : Hid (k < ((q.fmid k).lasts.set k b).length) := Lib.hid (by rw [List.length_set]; exact HKL.out)
            have HLN2 : Hid (((q.fmid k).lasts.set k b).length = n) := Lib.hid (by rw [List.length_set]; exact HLN.out)
            clear cw hx hb HS
            go_upto_region 7 with fail
            refine wp_region_still_tail 13 (by kernel_rfl) (by kernel_rfl) ?_
            simp only [List.take_succ_cons, List.take_zero, List.drop_succ_cons, List.drop_zero]
            repeat still_step
            refine wpStill_nil ?_
            change wpList _ _ _ _ _ wr.drew
            go_upto_region 8 with fail
            generalize (wr.setCell ⟨g.bl, k, none⟩ (.string (Mt.str b))).drew = u at *
            clear c0 c1 cl cw' fl fw HDK HFK
            obtain ⟨c0, c1, ncl, ncw, nfl, nfw⟩ := HS2.out.cellsN (by have := HKL2.out; show ((q.fmid k).lasts.set k b).length ≠ 0; omega)
            dsimp only at c0 c1
            rw [HLN2.out] at c0 c1
            have cw := ncw k HKL2.out
            have fw := nfw k
            clear ncl ncw nfl nfw
            go_wp2_with fail
            go_roundw
            case rel => exact ⟨k + 1, by omega, by go_num, Lib.hid (HEND.out _ HS2.out), Lib.hid (HF2.out.setCell (.inr (.inr rfl)) _)⟩
            case measure => simp [intOf]; omega
        · obtain rfl : k = n := by omega
          go_wp2_with fail
          go_ret
          refine ⟨rfl, ?_, HFK.out⟩
          rw [← Mt.fmid_all q HD.out.ok, HN.out]
          exact HDK.out
    · have e : d.flush = (d.count.1, 10) := by
        unfold Mt.Dk.flush; rw [hoff, if_neg Bool.false_ne_true, if_neg (by rw [hq]; decide)]
        exact Prod.ext rfl hq
      rw [e]
      have hb : (d.count.2 == 10) = true := by rw [hq]; rfl
      rw [hb] at HFA
      generalize d.count.1 = q at *
      clear h e hoff f c0 hq hb HD
      go_enter Try.func41, Try.ntmps41
      go_wp2_with fail
      refine (HFA.out).mono ?_
      rintro e w2 ⟨rfl, hd, hf⟩
      have HX := Lib.hid (And.intro hd hf)
      clear hd hf
      go_wp2_with fail
      go_ret
      exact ⟨rfl, HX.out⟩
end
end Go.Proofs.Ytlknfgomagmpcaa
