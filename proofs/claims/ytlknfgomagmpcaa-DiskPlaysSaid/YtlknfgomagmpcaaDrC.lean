/-
  What 'fails', Write, Flush and Crash of the document's disk come to.
-/
import Derived.Test.YtlknfgomagmpcaaDrB
namespace Go.Proofs.Ytlknfgomagmpcaa
open Go.RowKit Go.Maps

section
variable {w : World} {g : Rg} {d : Mt.Dk} {t : Nat}

theorem elose_any (h : IsR w g t d) (keep : Nat) (torn at' : Int) (ht : t < 1000) (hkp : keep < 18446744073709551616) (hto : -9223372036854775808 ≤ torn ∧ torn ≤ 9223372036854775807) (hat : -9223372036854775808 ≤ at' ∧ at' ≤ 9223372036854775807) :
    Calls Try.prog 61 #[.pointer (some ⟨g.R, 0, none⟩), .agg #[.int .u64 (keep : Int), .int .i64 torn, .int .i64 at']] w fun e w' => e = .returned (.tuple #[]) ∧ IsR w' g (t + 1) (d.lose keep torn at') ∧ Fr g w w' := by
  obtain ⟨lim, most, tv, tn, tcs, h, hn⟩ := h
  refine (elose_rd h keep torn at' (by omega) hkp hto hat).mono ?_
  rintro e w' ⟨rfl, ⟨tv', tn', tcs', h', hn'⟩, hf⟩
  exact ⟨rfl, ⟨lim, most, tv', tn', tcs', h', by omega⟩, hf⟩

theorem IsR.set4 (h : IsR w g t d) (b : Bool) : IsR (w.setCell ⟨g.R, 4, none⟩ (.bool b)) g t { d with off := b } := by
  obtain ⟨lim, most, tv, tn, tcs, h, hn⟩ := h
  exact ⟨lim, most, tv, tn, tcs, h.field 4 _ { d with off := b } lim most tv tn tcs (h.ok.setOff b) rfl rfl rfl h.room h.most h.tears, hn⟩
theorem IsR.set5 (h : IsR w g t d) (c : Nat) (hc : c ≤ 9223372036854775807) : IsR (w.setCell ⟨g.R, 5, none⟩ (.int .i64 (c : Int))) g t { d with cut := c } := by
  obtain ⟨lim, most, tv, tn, tcs, h, hn⟩ := h
  exact ⟨lim, most, tv, tn, tcs, h.field 5 _ { d with cut := c } lim most tv tn tcs (h.ok.setCut c hc) rfl rfl rfl h.room h.most h.tears, hn⟩
theorem IsR.drew (h : IsR w g t d) : IsR w.drew g t d := by
  obtain ⟨lim, most, tv, tn, tcs, h, hn⟩ := h
  exact ⟨lim, most, tv, tn, tcs, h.drew, hn⟩
theorem IsR.alloc (h : IsR w g t d) (o : Obj) : IsR (w.alloc o) g t d := by
  obtain ⟨lim, most, tv, tn, tcs, h, hn⟩ := h
  exact ⟨lim, most, tv, tn, tcs, h.alloc o, hn⟩
theorem IsR.cells (h : IsR w g t d) : (∃ a, w.cell? ⟨g.R, 0, none⟩ = some (.slice a d.lasts.length g.cl)) ∧ w.cell? ⟨g.R, 4, none⟩ = some (.bool d.off) ∧ w.cell? ⟨g.R, 5, none⟩ = some (.int .i64 (d.cut : Int)) ∧ w.cell? ⟨g.R, 6, none⟩ = some (.int .u64 (d.keep : Int)) ∧ w.cell? ⟨g.R, 7, none⟩ = some (.int .i64 d.torn) ∧ w.cell? ⟨g.R, 8, none⟩ = some (.int .i64 d.at') ∧ ∀ i, w.frozen? ⟨g.R, i, none⟩ = false := by
  obtain ⟨lim, most, tv, tn, tcs, h, hn⟩ := h
  exact ⟨⟨_, h.c0⟩, h.c4, h.c5, h.c6, h.c7, h.c8, h.f⟩
theorem IsR.cellsN (h : IsR w g t d) (hn0 : d.lasts.length ≠ 0) : w.cell? ⟨g.R, 0, none⟩ = some (.slice (some ⟨g.bl, 0, none⟩) d.lasts.length g.cl) ∧ w.cell? ⟨g.R, 1, none⟩ = some (.slice (some ⟨g.bw, 0, none⟩) d.lasts.length g.cw) ∧ (∀ i, i < d.lasts.length → w.cell? ⟨g.bl, i, none⟩ = some (.string (lastT d i))) ∧ (∀ i, i < d.lasts.length → w.cell? ⟨g.bw, i, none⟩ = some (.string (waitT d i))) ∧ (∀ i, w.frozen? ⟨g.bl, i, none⟩ = false) ∧ ∀ i, w.frozen? ⟨g.bw, i, none⟩ = false := by
  obtain ⟨lim, most, tv, tn, tcs, h, hn⟩ := h
  have c0 := h.c0
  have c1 := h.c1
  rw [slc_pos hn0] at c0 c1
  exact ⟨c0, c1, h.cL, h.cW, fun i => h.fL i hn0, fun i => h.fW i hn0⟩
theorem IsR.setL (h : IsR w g t d) (k : Nat) (hk : k < d.lasts.length) (s : List UInt8) (hs : s.length = 128) : IsR (w.setCell ⟨g.bl, k, none⟩ (.string (Mt.str s))) g t { d with lasts := d.lasts.set k s } := by
  obtain ⟨lim, most, tv, tn, tcs, h, hn⟩ := h
  exact ⟨lim, most, tv, tn, tcs, h.setL k hk s hs, hn⟩
theorem IsR.setW (h : IsR w g t d) (k : Nat) (hk : k < d.lasts.length) (o : Option (List UInt8)) (ho : ∀ b, o = some b → b.length = 128) : IsR (w.setCell ⟨g.bw, k, none⟩ (.string (wtxt o))) g t { d with waits := d.waits.set k o } := by
  obtain ⟨lim, most, tv, tn, tcs, h, hn⟩ := h
  exact ⟨lim, most, tv, tn, tcs, h.setW k hk o ho, hn⟩

theorem RD.load3 {lim : Bool} {most : Nat} {tv : Value} {tn : Nat} {tcs : List Value} (h : RD w g d lim most tv tn tcs) : True := trivial

set_option maxRecDepth 100000 in
theorem efails_any (h : IsR w g t d) (ht : t < 1000) : Calls Try.prog 60 #[.pointer (some ⟨g.R, 0, none⟩)] w fun e w' => e = .returned (.bool (d.count.2 == 10)) ∧ IsR w' g (t + 1) d.count.1 ∧ Fr g w w' := by
  obtain ⟨_, c4, c5, c6, c7, c8, f⟩ := h.cells
  have f5 := f 5
  have HD := Lib.hid h
  have HOK := Lib.hid h.ok
  by_cases h0 : d.cut = 0
  · have e : d.count = (d, 0) := by unfold Mt.Dk.count; rw [if_pos h0]
    rw [e]
    rw [h0] at c5
    clear h e h0 f
    go_enter Try.func60, Try.ntmps60
    go_wp2
    go_ret
    exact ⟨rfl, HD.out.mono (by omega), Fr.refl _ _⟩
  · by_cases h1 : d.cut = 1
    · have e : d.count = ({ ({ d with cut := 0 } : Mt.Dk).lose d.keep d.torn d.at' with off := true }, 10) := by unfold Mt.Dk.count; rw [if_neg h0, if_pos h1]
      rw [e]
      rw [h1] at c5
      have HD2 := Lib.hid (h.set5 0 (by omega))
      have HF2 := Lib.hid ((Fr.refl g w).setCell (x := g.R) (i := 5) (.inl rfl) (.int .i64 ((0 : Nat) : Int)))
      clear h e h0 h1
      go_enter Try.func60, Try.ntmps60
      go_upto_region 4 with fail
      change Code.wp _ _ _ _ (w.setCell ⟨g.R, 5, none⟩ (.int .i64 ((0 : Nat) : Int)))
      generalize (w.setCell ⟨g.R, 5, none⟩ (.int .i64 ((0 : Nat) : Int))) = u at *
      clear c4 c5 c6 c7 c8 f f5
      obtain ⟨_, c4, c5, c6, c7, c8, f⟩ := HD2.out.cells
      have HL := Lib.hid (elose_any HD2.out d.keep d.torn d.at' ht HOK.out.keep HOK.out.torn HOK.out.at')
      dsimp only at c4 c5 c6 c7 c8
      go_wp2_with fail
      refine (HL.out).mono ?_
      rintro e w' ⟨rfl, hd, hf⟩
      obtain ⟨_, c4, c5, c6, c7, c8, f⟩ := hd.cells
      have f4 := f 4
      have HD3 := Lib.hid (hd.set4 true)
      have HF3 := Lib.hid ((HF2.out.trans hf).setCell (x := g.R) (i := 4) (.inl rfl) (.bool true))
      clear hd hf f c5 c6 c7 c8
      go_wp2_with fail
      go_ret
      exact ⟨rfl, HD3.out, HF3.out⟩
    · have e : d.count = ({ d with cut := d.cut - 1 }, 0) := by unfold Mt.Dk.count; rw [if_neg h0, if_neg h1]
      rw [e]
      obtain ⟨c, hc⟩ : ∃ c, d.cut = c + 2 := ⟨d.cut - 2, by omega⟩
      have hcm := h.ok.cut
      have HP : Hid (∀ z : Int, z = (c + 1 : Nat) → IsR (w.setCell ⟨g.R, 5, none⟩ (.int .i64 z)) g t { d with cut := d.cut - 1 } ∧ Fr g w (w.setCell ⟨g.R, 5, none⟩ (.int .i64 z))) := Lib.hid (fun z hz => by
        subst hz
        rw [hc]
        exact ⟨h.set5 (c + 1) (by omega), (Fr.refl g w).setCell (.inl rfl) _⟩)
      rw [hc] at c5 hcm
      clear h e h0 h1 hc
      go_enter Try.func60, Try.ntmps60
      go_wp2
      go_ret
      exact ⟨rfl, (HP.out _ (by omega)).1.mono (by omega), (HP.out _ (by omega)).2⟩
end
end Go.Proofs.Ytlknfgomagmpcaa
