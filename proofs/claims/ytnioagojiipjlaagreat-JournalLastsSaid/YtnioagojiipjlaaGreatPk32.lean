/-
  Some texts of one proof, one behind the other.
-/
import Derived.Test.YtnioagojiipjlaaGreatPk27
import Derived.Test.YtnioagojiipjlaaGreatPk31
set_option linter.unusedVariables false
set_option linter.unusedSimpArgs false

/-
  What Open comes to.
-/
namespace Go.Proofs.YtnioagojiipjlaaGreat
open Go.RowKit
theorem Mt.record_size {l : List Mt.Cl} (h : ∀ c ∈ l, c.body.length ≤ 110) (gen k : Nat) : (Mt.record l gen k).1.length ≤ 110 * l.length := by
  unfold Mt.record
  split
  · simp
  · split
    · show (Mt.bodyOf l _).length ≤ _
      have := Mt.bodyOf_le l h (l.getD 0 Mt.Cl.zero).parts
      rename_i h1 _
      have h2 : (l.getD 0 Mt.Cl.zero).parts ≤ l.length := by omega
      exact Nat.le_trans this (Nat.mul_le_mul_left _ h2)
    · simp
theorem Mt.recordsF_size : ∀ (f : Nat) (l : List Mt.Cl) (gen k n : Nat), (∀ c ∈ l, c.body.length ≤ 110) → l.length ≤ n → ∀ b ∈ Mt.recordsF f l gen k, b.length ≤ 110 * n
  | 0, _, _, _, _, _, _, b, hb => by simp [Mt.recordsF] at hb
  | f + 1, l, gen, k, n, h, hn, b, hb => by
    unfold Mt.recordsF at hb
    split at hb
    · simp at hb
    · rw [List.mem_cons] at hb
      rcases hb with rfl | hb
      · exact Nat.le_trans (Mt.record_size h gen k) (Nat.mul_le_mul_left _ hn)
      · exact Mt.recordsF_size f _ gen (k + 1) n (fun c hc => h c (List.mem_of_mem_drop hc)) (by rw [List.length_drop]; omega) b hb
theorem Mt.recordsF_len : ∀ (f : Nat) (l : List Mt.Cl) (gen k : Nat), (Mt.recordsF f l gen k).length ≤ l.length
  | 0, _, _, _ => by simp [Mt.recordsF]
  | f + 1, l, gen, k => by
    unfold Mt.recordsF
    split
    · simp
    · rename_i hx
      have h1 := Mt.recordsF_len f (l.drop (Mt.record l gen k).2) gen (k + 1)
      rw [List.length_drop] at h1
      rw [List.length_cons]
      have : (Mt.record l gen k).2 ≠ 0 := fun e => hx (.inr e)
      have : 0 < l.length := by
        rcases Nat.eq_zero_or_pos l.length with h | h
        · exact absurd (.inl h) hx
        · exact h
      omega
theorem Mt.findJ_recs (d : Mt.Dk) (hd : d.lasts.length ≤ 8192) : (∀ b ∈ (Mt.findJ d).2, b.length ≤ 1048576) ∧ (Mt.findJ d).2.length ≤ 8192 := by
  have hz : Mt.hsize d.lasts.length ≤ 4095 := by unfold Mt.hsize; omega
  have H : ∀ a gen, (∀ b ∈ Mt.records (d.cellsFrom a (Mt.hsize d.lasts.length)) gen, b.length ≤ 1048576) ∧ (Mt.records (d.cellsFrom a (Mt.hsize d.lasts.length)) gen).length ≤ 8192 := fun a gen => by
    refine ⟨fun b hb => ?_, ?_⟩
    · have := Mt.recordsF_size _ _ gen 0 4095 (Mt.row_body d a _) (by rw [Mt.cellsFrom_length]; exact hz) b hb
      omega
    · have := Mt.recordsF_len (d.cellsFrom a (Mt.hsize d.lasts.length)).length (d.cellsFrom a (Mt.hsize d.lasts.length)) gen 0
      rw [Mt.cellsFrom_length] at this
      unfold Mt.records
      rw [Mt.cellsFrom_length]
      omega
  unfold Mt.findJ
  simp only
  split
  · exact H _ _
  · split
    · simp
    · exact H _ _
theorem Mt.findJ_ok (d : Mt.Dk) : (Mt.findJ d).1.half ≤ 1 ∧ (Mt.findJ d).1.head ≤ 1 ∧ (Mt.findJ d).1.gen < 4294967296 ∧ (Mt.findJ d).1.used = 0 ∧ (Mt.findJ d).1.count = 0 := by
  have h0 := Mt.rdHead_gen (d.sec 0)
  have h1 := Mt.rdHead_gen (d.sec 1)
  have hM : Mt.greatest (d.cellsFrom 2 (2 * Mt.hsize d.lasts.length)) (Mt.rdHead (d.sec 0)).1 (Mt.rdHead (d.sec 1)).1 < 4294967296 := Mt.greatest_lt _ _ _ (fun c hc => by
    unfold Mt.Dk.cellsFrom at hc
    rw [List.mem_map] at hc
    obtain ⟨i, _, rfl⟩ := hc
    exact Mt.rdCell_gen _) h0.1 h1.1
  unfold Mt.findJ
  simp only
  split
  · exact ⟨h0.2, by show 0 ≤ 1; omega, hM, rfl, rfl⟩
  · split
    · exact ⟨Nat.le_refl _, Nat.le_refl _, hM, rfl, rfl⟩
    · exact ⟨h1.2, Nat.le_refl _, hM, rfl, rfl⟩
/-- What Open comes to. -/
def Mt.openJ (d : Mt.Dk) : Mt.Dk × Mt.Jn × Int := Mt.layJ d (Mt.findJ d).1 (Mt.findJ d).2
section
variable {w u : World} {B bl bm : Nat} {d : Mt.Dk}
theorem open_nil6 (w : World) : Calls Tryz.prog 11 #[.pointer none] w fun e w' => e = .returned (.tuple #[.pointer none, .slice none 0 0, .int .i64 1]) ∧ w = w' := by
  go_enter Tryz.func11, Tryz.ntmps11
  go_wp2
  go_ret3
  exact ⟨rfl, rfl⟩
theorem open_small (h : IsDisk w B bl bm d) (h4 : d.lasts.length < 4) : Calls Tryz.prog 11 #[.pointer (some ⟨B, 0, none⟩)] w fun e w' => e = .returned (.tuple #[.pointer none, .slice none 0 0, .int .i64 2]) ∧ w = w' := by
  have HS := Lib.hid (sectors_any h)
  generalize d.lasts.length = n at *
  have hd : decide ((n : Int) < 4) = true := decide_eq_true (by omega)
  have hd2 : decide (n < 4) = true := decide_eq_true h4
  clear h h4
  go_enter Tryz.func11, Tryz.ntmps11
  go_wp2_with fail
  refine (HS.out).mono ?_
  rintro e w1 ⟨rfl, rfl⟩
  go_wp2_with fail
  go_ret3
  exact ⟨rfl, rfl⟩
theorem open_off (h : IsDisk w B bl bm d) (h4 : 4 ≤ d.lasts.length) (ho : d.off = true) : Calls Tryz.prog 11 #[.pointer (some ⟨B, 0, none⟩)] w fun e w' => e = .returned (.tuple #[.pointer none, .slice none 0 0, .int .i64 10]) ∧ Below w.heap.size w w' := by
  have HS := Lib.hid (sectors_any h)
  have HR := Lib.hid (readAll_off h ho (by omega))
  generalize d.lasts.length = n at *
  have hd : decide ((n : Int) < 4) = false := decide_eq_false (by omega)
  have hd2 : decide (n < 4) = false := decide_eq_false (by omega)
  clear h h4 ho
  go_enter Tryz.func11, Tryz.ntmps11
  go_wp2_with fail
  refine (HS.out).mono ?_
  rintro e w1 ⟨rfl, rfl⟩
  go_wp2_with fail
  refine (HR.out).mono ?_
  rintro e w1 ⟨rfl, hb⟩
  have HB := Lib.hid hb
  clear hb
  go_wp2_with fail
  go_ret3
  exact ⟨rfl, HB.out⟩
set_option maxRecDepth 100000 in
theorem open_new (h : IsDisk w B bl bm d) (h4 : 4 ≤ d.lasts.length) (ho : d.off = false) : Calls Tryz.prog 11 #[.pointer (some ⟨B, 0, none⟩)] w fun e w' =>
    ((Mt.openJ d).2.2 = 0 → ∃ J x j', w.heap.size ≤ J ∧ e = .returned (.tuple #[.pointer (some ⟨J, 0, none⟩), x, .int .i64 0]) ∧ TsN w.heap.size w' x (Mt.findJ d).2 ∧ JD w' J B bl bm j' (Mt.openJ d).1 ∧ LaidJ (Mt.findJ d).2 j' (Mt.openJ d).2.1) ∧
    ((Mt.openJ d).2.2 ≠ 0 → e = .returned (.tuple #[.pointer none, .slice none 0 0, .int .i64 (Mt.openJ d).2.2]) ∧ IsDisk w' B bl bm (Mt.openJ d).1) ∧ OnlyS [B, bl, bm] w w' := by
  have HS := Lib.hid (sectors_any h)
  have HR := Lib.hid (readAll_on h ho)
  have H := Lib.hid h
  have H4 := Lib.hid h4
  have HF := Lib.hid (fun (u : World) (hu : Below w.heap.size w u) (v : Value) (hv : IsTs u v (Mt.secsL d)) => find_new (h.below hu) h4 hv)
  have HRC := Lib.hid (Mt.findJ_recs d h.ok.most)
  have HOK := Lib.hid (Mt.findJ_ok d)
  have HOP := Lib.hid (show Mt.openJ d = Mt.layJ d (Mt.findJ d).1 (Mt.findJ d).2 from rfl)
  have hlt : B < w.heap.size ∧ bl < w.heap.size ∧ bm < w.heap.size := ⟨h.ltB, h.ltL, h.ltM⟩
  have HLT := Lib.hid hlt
  generalize hn : d.lasts.length = n at HS H4
  have hd : decide ((n : Int) < 4) = false := decide_eq_false (by omega)
  have hd2 : decide (n < 4) = false := decide_eq_false (by omega)
  have HN := Lib.hid hn
  clear h h4 ho hlt hn
  generalize hPP : (fun (e : Ending) (w' : World) => ((Mt.openJ d).2.2 = 0 → ∃ J x j', w.heap.size ≤ J ∧ e = .returned (.tuple #[.pointer (some ⟨J, 0, none⟩), x, .int .i64 0]) ∧ TsN w.heap.size w' x (Mt.findJ d).2 ∧ JD w' J B bl bm j' (Mt.openJ d).1 ∧ LaidJ (Mt.findJ d).2 j' (Mt.openJ d).2.1) ∧
    ((Mt.openJ d).2.2 ≠ 0 → e = .returned (.tuple #[.pointer none, .slice none 0 0, .int .i64 (Mt.openJ d).2.2]) ∧ IsDisk w' B bl bm (Mt.openJ d).1) ∧ OnlyS [B, bl, bm] w w') = PP
  have HPP := Lib.hid hPP
  clear hPP
  go_enter Tryz.func11, Tryz.ntmps11
  go_wp2_with fail
  refine (HS.out).mono ?_
  rintro e w1 ⟨rfl, rfl⟩
  go_wp2_with fail
  refine (HR.out).mono ?_
  rintro e w1 ⟨v, rfl, hts, hb⟩
  have HF1 := Lib.hid (HF.out w1 hb v hts)
  have HB1 := Lib.hid hb
  clear hts hb HF HR HS
  go_wp2_with fail
  refine (HF1.out).mono ?_
  rintro e w2 ⟨x, rfl, hts, hj, hb⟩
  have hb2 := HB1.out.trans (hb.mono HB1.out.size)
  have hjd : JD w2 w1.heap.size B bl bm (Mt.findJ d).1 d := ⟨hj, H.out.below hb2, by rw [HN.out]; exact H4.out, HOK.out.1, HOK.out.2.1, by have := HOK.out.2.2.1; omega, by rw [HOK.out.2.2.2.1]; omega, by rw [HOK.out.2.2.2.2]; omega⟩
  have HLY := Lib.hid (lay_any6 hjd hts.1 (by have := HRC.out.2; omega) HRC.out.1)
  have HTS := Lib.hid hts
  have HJD := Lib.hid hjd
  have HB2 := Lib.hid hb2
  have HJL := Lib.hid HB1.out.size
  clear hts hj hb hb2 hjd HF1
  rw [← HOP.out] at HLY
  generalize w1.heap.size = J at *
  go_wp2_with fail
  refine (HLY.out).mono ?_
  rintro e w3 ⟨rfl, ⟨j3, hd3, hl3⟩, ho3⟩
  have HL3 := Lib.hid hl3
  have HT3 : Hid (TsN w.heap.size w3 x (Mt.findJ d).2) := Lib.hid ⟨IsTs.only HJD.out HTS.out.1 ho3, fun a n c e => Nat.le_trans HJL.out (HTS.out.2 a n c e)⟩
  have HD3 := Lib.hid hd3
  have HO3 : Hid (OnlyS [B, bl, bm] w w3) := Lib.hid ⟨ho3.os.trans HB2.out.os, ho3.tape.trans HB2.out.tape, ho3.output.trans HB2.out.output, Nat.le_trans HB2.out.size ho3.size, fun k hk hS => (ho3.block k (Nat.lt_of_lt_of_le hk HB2.out.size) (by
    have := HJL.out
    simp at hS ⊢
    omega)).trans (HB2.out.block k hk)⟩
  clear hd3 ho3 hl3
  by_cases hE : (Mt.openJ d).2.2 = 0
  · have HE := Lib.hid hE
    have HPF : Hid (PP (.returned (.tuple #[.pointer (some ⟨J, 0, none⟩), x, .int .i64 0])) w3) := Lib.hid (by
      rw [← HPP.out]
      exact ⟨fun _ => ⟨J, x, j3, HJL.out, rfl, HT3.out, HD3.out, HL3.out⟩, fun h => absurd HE.out h, HO3.out⟩)
    rw [hE]
    clear hE
    go_wp2_with fail
    go_ret3
    exact HPF.out
  · have HE := Lib.hid hE
    have HPF : Hid (PP (.returned (.tuple #[.pointer none, .slice none 0 0, .int .i64 (Mt.openJ d).2.2])) w3) := Lib.hid (by
      rw [← HPP.out]
      exact ⟨fun h => absurd h HE.out, fun _ => ⟨rfl, HD3.out.dk⟩, HO3.out⟩)
    generalize (Mt.openJ d).2.2 = E at *
    have hd9 : (E == 0) = false := by simpa using hE
    clear hE
    go_wp2_with fail
    go_ret3
    exact HPF.out
theorem open_on (h : IsDisk w B bl bm d) (h4 : 4 ≤ d.lasts.length) (ho : d.off = false) : Calls Tryz.prog 11 #[.pointer (some ⟨B, 0, none⟩)] w fun e w' =>
    ((Mt.openJ d).2.2 = 0 → ∃ J x j', w.heap.size ≤ J ∧ e = .returned (.tuple #[.pointer (some ⟨J, 0, none⟩), x, .int .i64 0]) ∧ IsTs w' x (Mt.findJ d).2 ∧ JD w' J B bl bm j' (Mt.openJ d).1 ∧ LaidJ (Mt.findJ d).2 j' (Mt.openJ d).2.1) ∧
    ((Mt.openJ d).2.2 ≠ 0 → e = .returned (.tuple #[.pointer none, .slice none 0 0, .int .i64 (Mt.openJ d).2.2]) ∧ IsDisk w' B bl bm (Mt.openJ d).1) ∧ OnlyS [B, bl, bm] w w' :=
  (open_new h h4 ho).mono fun _ _ ⟨h1, h2, h3⟩ => ⟨fun h0 => by
    obtain ⟨J, x, j', a1, a2, a3, a4⟩ := h1 h0
    exact ⟨J, x, j', a1, a2, a3.1, a4⟩, h2, h3⟩
end
end Go.Proofs.YtnioagojiipjlaaGreat

/-
  The example, reckoned: a new disk of six sectors, opened, with a record, crashed, opened again.
-/
namespace Go.Proofs.YtnioagojiipjlaaGreat.Mt
/-- The journal of a new disk; behind one record; behind a loss of power. -/
def aw0 : Dk := Dk.new 6
def aw1 : Dk × Jn × Int := openJ aw0
def aw2 : Dk × Jn × Int := appendJ aw1.1 aw1.2.1 [97]
def aw3 : Dk := aw2.1.crash 0 (-1) 0
theorem aw0_none : (findJ aw0).2 = [] := by decide +kernel
theorem aw1_ok : aw1.2.2 = 0 := by decide +kernel
theorem aw1_in : aw1.2.1.gen = 1 ∧ aw1.2.1.count = 0 ∧ aw1.2.1.used = 0 := by decide +kernel
theorem aw2_ok : aw2.2.2 = 0 := by decide +kernel
theorem aw2_in : aw2.2.1.gen = 1 ∧ aw2.2.1.left aw2.1 = 1 := by decide +kernel
theorem aw3_in : 4 ≤ aw3.lasts.length ∧ aw3.off = false := by decide +kernel
theorem aw3_recs : (findJ aw3).2 = [[97]] := by decide +kernel
theorem aw3_ok : (openJ aw3).2.2 = 0 := by decide +kernel
end Go.Proofs.YtnioagojiipjlaaGreat.Mt

/-
  The example: a record that lasts.
-/
namespace Go.Proofs.YtnioagojiipjlaaGreat
open Go.RowKit
set_option maxRecDepth 100000 in
set_option maxHeartbeats 1000000 in
theorem awake6_any (w : World) : Calls Tryz.prog 8 #[] w fun e w' => e = .returned (.bool true) ∧ Below w.heap.size w w' := by
  have HNEW : Hid (Calls Tryz.prog 6 #[.int .i64 6] w fun e w' => e = .returned (.pointer (some ⟨w.heap.size + 2, 0, none⟩)) ∧ IsDisk w' (w.heap.size + 2) w.heap.size (w.heap.size + 1) Mt.aw0 ∧ Below w.heap.size w w') := Lib.hid (new_any 6 w)
  have HND := Lib.hid (fun u => need_yes 111 u (by omega))
  go_enter Tryz.func8, Tryz.ntmps8
  go_wp2_with fail
  refine (HNEW.out).mono ?_
  rintro e w1 ⟨rfl, hd, hb⟩
  generalize hB : w.heap.size + 2 = B at *
  generalize hbm : w.heap.size + 1 = bm at *
  have HBN := Lib.hid (And.intro hB hbm)
  have HD1 := Lib.hid hd
  have HB1 := Lib.hid hb
  clear hB hbm hd hb HNEW
  have HOP := Lib.hid (open_on HD1.out (by decide +kernel) (by decide +kernel))
  go_wp2_with fail
  refine (HOP.out).mono ?_
  rintro e w2 ⟨h1, -, ho⟩
  obtain ⟨J, x, j', hJ, rfl, hx, hj, hjl⟩ := h1 Mt.aw1_ok
  obtain rfl := hjl
  have HJ := Lib.hid hj
  have HJL := Lib.hid (show w.heap.size ≤ J by have := HB1.out.size; omega)
  have hbel : Below w.heap.size w w2 := HB1.out.trans (ho.toBelow (by intro k hk; simp at hk; have := HBN.out; omega) HB1.out.size)
  have HB2 := Lib.hid hbel
  rw [Mt.aw0_none] at hx
  obtain ⟨a0, c0, rfl, -, -⟩ := hx
  have HAP := Lib.hid (append_any6 hj [97] (by have := Mt.aw1_in.1; show Mt.aw1.2.1.gen < _; omega) (by have := Mt.aw1_in.2; show Mt.aw1.2.1.count ≤ Mt.aw1.2.1.used; omega) (by simp))
  clear h1 ho hj hbel HOP hJ
  go_wp2_with fail
  refine (HAP.out).mono ?_
  rintro e w3 ⟨rfl, hj, ho⟩
  rw [show (Mt.appendJ (Mt.openJ Mt.aw0).1 (Mt.openJ Mt.aw0).2.1 [97]).2.2 = 0 from Mt.aw2_ok]
  have HJ3 := Lib.hid hj
  have HB3 := Lib.hid (HB2.out.trans (ho.toBelow (by intro k hk; simp at hk; have := HBN.out; have := HJL.out; omega) HB2.out.size))
  have HGE := Lib.hid (gen_any hj.jn hj.gen)
  have HLE := Lib.hid (left_any hj)
  rw [show (Mt.appendJ (Mt.openJ Mt.aw0).1 (Mt.openJ Mt.aw0).2.1 [97]).2.1.gen = 1 from Mt.aw2_in.1] at HGE
  rw [show (Mt.appendJ (Mt.openJ Mt.aw0).1 (Mt.openJ Mt.aw0).2.1 [97]).2.1.left (Mt.appendJ (Mt.openJ Mt.aw0).1 (Mt.openJ Mt.aw0).2.1 [97]).1 = 1 from Mt.aw2_in.2] at HLE
  clear hj ho HAP
  go_wp2_with fail
  refine (HGE.out).mono ?_
  rintro e w4 ⟨rfl, rfl⟩
  go_wp2_with fail
  refine (HLE.out).mono ?_
  rintro e w4 ⟨rfl, hb⟩
  have hj4 := HJ3.out.below hb
  have HB4 := Lib.hid (HB3.out.trans (hb.mono HB3.out.size))
  have HCR := Lib.hid (crash_any hj4.dk 0 (-1) 0 (by omega) (by omega) (by omega))
  clear hb hj4
  go_wp2_with fail
  refine (HCR.out).mono ?_
  rintro e w5 ⟨rfl, hd, ho⟩
  have HB5 := Lib.hid (HB4.out.trans (ho.toBelow (by intro k hk; simp at hk; have := HBN.out; omega) HB4.out.size))
  have HOP := Lib.hid (open_on hd Mt.aw3_in.1 Mt.aw3_in.2)
  clear hd ho HCR
  go_wp2_with fail
  refine (HOP.out).mono ?_
  rintro e w6 ⟨h1, -, ho⟩
  obtain ⟨J2, x2, -, -, rfl, hx2, -, -⟩ := h1 Mt.aw3_ok
  have HB6 := Lib.hid (HB5.out.trans (ho.toBelow (by intro k hk; simp at hk; have := HBN.out; omega) HB5.out.size))
  have hx3 : IsTs w6 x2 [[97]] := by rw [← Mt.aw3_recs]; exact hx2
  obtain ⟨a2, c2, rfl, HX2⟩ := hx3.open
  obtain ⟨b3, o3, rfl, -, hcell⟩ := HX2.out 0 (by decide)
  have hcell' : w6.cell? ⟨b3, o3, none⟩ = some (.string ⟨#[97]⟩) := hcell
  clear h1 ho HOP hx2 hx3 HX2 hcell
  go_wp2_with fail
  refine (HND.out _).mono ?_
  rintro e w7 ⟨rfl, rfl⟩
  have hc2 : ((Mt.cellsN 111 : Nat) : Int) = 2 := by decide
  rw [hc2]
  go_wp2_with fail
  go_ret
  exact ⟨rfl, HB6.out⟩
end Go.Proofs.YtnioagojiipjlaaGreat

/-
  What Open leaves behind, in full.
-/
namespace Go.Proofs.YtnioagojiipjlaaGreat
open Go.RowKit
theorem LaidJ.eq {bs : List (List UInt8)} {j' c : Mt.Jn} (h : LaidJ bs j' c) : j' = c := by
  exact h
end Go.Proofs.YtnioagojiipjlaaGreat
