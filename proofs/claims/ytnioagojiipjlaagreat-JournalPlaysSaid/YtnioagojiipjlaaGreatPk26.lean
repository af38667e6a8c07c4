/-
  Some texts of one proof, one behind the other.
-/
import Derived.Test.YtnioagojiipjlaaGreatPk21
import Derived.Test.YtnioagojiipjlaaGreatPk23
import Derived.Test.YtnioagojiipjlaaGreatPk24
import Derived.Test.YtnioagojiipjlaaGreatPk25

/-
  What Open comes to.
-/
namespace Go.Proofs.YtnioagojiipjlaaGreat
open Go.RowKit
theorem Mt.record_size {l : List Mt.Cl} (h : ∀ c ∈ l, c.body.length ≤ 110) (gen k : Nat) : (Mt.record l gen k).1.length ≤ 110 * l.length := by
  unfold Mt.record
  split
  · simp
  · split
    · show (Mt.bodyOf l _).length ≤ _
      have := Mt.bodyOf_le l h (l.getD 0 Mt.Cl.zero).parts
      rename_i h1 _
      have h2 : (l.getD 0 Mt.Cl.zero).parts ≤ l.length := by omega
      exact Nat.le_trans this (Nat.mul_le_mul_left _ h2)
    · simp
theorem Mt.recordsF_size : ∀ (f : Nat) (l : List Mt.Cl) (gen k n : Nat), (∀ c ∈ l, c.body.length ≤ 110) → l.length ≤ n → ∀ b ∈ Mt.recordsF f l gen k, b.length ≤ 110 * n
  | 0, _, _, _, _, _, _, b, hb => by simp [Mt.recordsF] at hb
  | f + 1, l, gen, k, n, h, hn, b, hb => by
    unfold Mt.recordsF at hb
    split at hb
    · simp at hb
    · rw [List.mem_cons] at hb
      rcases hb with rfl | hb
      · exact Nat.le_trans (Mt.record_size h gen k) (Nat.mul_le_mul_left _ hn)
      · exact Mt.recordsF_size f _ gen (k + 1) n (fun c hc => h c (List.mem_of_mem_drop hc)) (by rw [List.length_drop]; omega) b hb
theorem Mt.recordsF_len : ∀ (f : Nat) (l : List Mt.Cl) (gen k : Nat), (Mt.recordsF f l gen k).length ≤ l.length
  | 0, _, _, _ => by simp [Mt.recordsF]
  | f + 1, l, gen, k => by
    unfold Mt.recordsF
    split
    · simp
    · rename_i hx
      have h1 := Mt.recordsF_len f (l.drop (Mt.record l gen k).2) gen (k + 1)
      rw [List.length_drop] at h1
      rw [List.length_cons]
      have : (Mt.record l gen k).2 ≠ 0 := fun e => hx (.inr e)
      have : 0 < l.length := by
        rcases Nat.eq_zero_or_pos l.length with h | h
        · exact absurd (.inl h) hx
        · exact h
      omega
theorem Mt.findJ_recs (d : Mt.Dk) (hd : d.lasts.length ≤ 8192) : (∀ b ∈ (Mt.findJ d).2, b.length ≤ 1048576) ∧ (Mt.findJ d).2.length ≤ 8192 := by
  have hz : Mt.hsize d.lasts.length ≤ 4095 := by unfold Mt.hsize; omega
  have H : ∀ a gen, (∀ b ∈ Mt.records (d.cellsFrom a (Mt.hsize d.lasts.length)) gen, b.length ≤ 1048576) ∧ (Mt.records (d.cellsFrom a (Mt.hsize d.lasts.length)) gen).length ≤ 8192 := fun a gen => by
    refine ⟨fun b hb => ?_, ?_⟩
    · have := Mt.recordsF_size _ _ gen 0 4095 (Mt.row_body d a _) (by rw [Mt.cellsFrom_length]; exact hz) b hb
      omega
    · have := Mt.recordsF_len (d.cellsFrom a (Mt.hsize d.lasts.length)).length (d.cellsFrom a (Mt.hsize d.lasts.length)) gen 0
      rw [Mt.cellsFrom_length] at this
      unfold Mt.records
      rw [Mt.cellsFrom_length]
      omega
  unfold Mt.findJ
  simp only
  split
  · exact H _ _
  · split
    · simp
    · exact H _ _
theorem Mt.findJ_ok (d : Mt.Dk) : (Mt.findJ d).1.half ≤ 1 ∧ (Mt.findJ d).1.head ≤ 1 ∧ (Mt.findJ d).1.gen < 4294967296 ∧ (Mt.findJ d).1.used = 0 ∧ (Mt.findJ d).1.count = 0 := by
  have h0 := Mt.rdHead_gen (d.sec 0)
  have h1 := Mt.rdHead_gen (d.sec 1)
  have hM : Mt.greatest (d.cellsFrom 2 (2 * Mt.hsize d.lasts.length)) (Mt.rdHead (d.sec 0)).1 (Mt.rdHead (d.sec 1)).1 < 4294967296 := Mt.greatest_lt _ _ _ (fun c hc => by
    unfold Mt.Dk.cellsFrom at hc
    rw [List.mem_map] at hc
    obtain ⟨i, _, rfl⟩ := hc
    exact Mt.rdCell_gen _) h0.1 h1.1
  unfold Mt.findJ
  simp only
  split
  · exact ⟨h0.2, by show 0 ≤ 1; omega, hM, rfl, rfl⟩
  · split
    · exact ⟨Nat.le_refl _, Nat.le_refl _, hM, rfl, rfl⟩
    · exact ⟨h1.2, Nat.le_refl _, hM, rfl, rfl⟩
/-- What Open comes to. -/
def Mt.openJ (d : Mt.Dk) : Mt.Dk × Mt.Jn × Int := Mt.layJ d (Mt.findJ d).1 (Mt.findJ d).2
section
variable {w u : World} {B bl bm : Nat} {d : Mt.Dk}
theorem open_nil6 (w : World) : Calls Tryz.prog 11 #[.pointer none] w fun e w' => e = .returned (.tuple #[.pointer none, .slice none 0 0, .int .i64 1]) ∧ w = w' := by
  go_enter Tryz.func11, Tryz.ntmps11
  go_wp2
  go_ret3
  exact ⟨rfl, rfl⟩
theorem open_small (h : IsDisk w B bl bm d) (h4 : d.lasts.length < 4) : Calls Tryz.prog 11 #[.pointer (some ⟨B, 0, none⟩)] w fun e w' => e = .returned (.tuple #[.pointer none, .slice none 0 0, .int .i64 2]) ∧ w = w' := by
  have HS := Lib.hid (sectors_any h)
  generalize d.lasts.length = n at *
  have hd : decide ((n : Int) < 4) = true := decide_eq_true (by omega)
  have hd2 : decide (n < 4) = true := decide_eq_true h4
  clear h h4
  go_enter Tryz.func11, Tryz.ntmps11
  go_wp2_with fail
  refine (HS.out).mono ?_
  rintro e w1 ⟨rfl, rfl⟩
  go_wp2_with fail
  go_ret3
  exact ⟨rfl, rfl⟩
theorem open_off (h : IsDisk w B bl bm d) (h4 : 4 ≤ d.lasts.length) (ho : d.off = true) : Calls Tryz.prog 11 #[.pointer (some ⟨B, 0, none⟩)] w fun e w' => e = .returned (.tuple #[.pointer none, .slice none 0 0, .int .i64 10]) ∧ Below w.heap.size w w' := by
  have HS := Lib.hid (sectors_any h)
  have HR := Lib.hid (readAll_off h ho (by omega))
  generalize d.lasts.length = n at *
  have hd : decide ((n : Int) < 4) = false := decide_eq_false (by omega)
  have hd2 : decide (n < 4) = false := decide_eq_false (by omega)
  clear h h4 ho
  go_enter Tryz.func11, Tryz.ntmps11
  go_wp2_with fail
  refine (HS.out).mono ?_
  rintro e w1 ⟨rfl, rfl⟩
  go_wp2_with fail
  refine (HR.out).mono ?_
  rintro e w1 ⟨rfl, hb⟩
  have HB := Lib.hid hb
  clear hb
  go_wp2_with fail
  go_ret3
  exact ⟨rfl, HB.out⟩
set_option maxRecDepth 100000 in
theorem open_new (h : IsDisk w B bl bm d) (h4 : 4 ≤ d.lasts.length) (ho : d.off = false) : Calls Tryz.prog 11 #[.pointer (some ⟨B, 0, none⟩)] w fun e w' =>
    ((Mt.openJ d).2.2 = 0 → ∃ J x j', w.heap.size ≤ J ∧ e = .returned (.tuple #[.pointer (some ⟨J, 0, none⟩), x, .int .i64 0]) ∧ TsN w.heap.size w' x (Mt.findJ d).2 ∧ JD w' J B bl bm j' (Mt.openJ d).1 ∧ LaidJ (Mt.findJ d).2 j' (Mt.openJ d).2.1) ∧
    ((Mt.openJ d).2.2 ≠ 0 → e = .returned (.tuple #[.pointer none, .slice none 0 0, .int .i64 (Mt.openJ d).2.2]) ∧ IsDisk w' B bl bm (Mt.openJ d).1) ∧ OnlyS [B, bl, bm] w w' := by
  have HS := Lib.hid (sectors_any h)
  have HR := Lib.hid (readAll_on h ho)
  have H := Lib.hid h
  have H4 := Lib.hid h4
  have HF := Lib.hid (fun (u : World) (hu : Below w.heap.size w u) (v : Value) (hv : IsTs u v (Mt.secsL d)) => find_new (h.below hu) h4 hv)
  have HRC := Lib.hid (Mt.findJ_recs d h.ok.most)
  have HOK := Lib.hid (Mt.findJ_ok d)
  have HOP := Lib.hid (show Mt.openJ d = Mt.layJ d (Mt.findJ d).1 (Mt.findJ d).2 from rfl)
  have hlt : B < w.heap.size ∧ bl < w.heap.size ∧ bm < w.heap.size := ⟨h.ltB, h.ltL, h.ltM⟩
  have HLT := Lib.hid hlt
  generalize hn : d.lasts.length = n at HS H4
  have hd : decide ((n : Int) < 4) = false := decide_eq_false (by omega)
  have hd2 : decide (n < 4) = false := decide_eq_false (by omega)
  have HN := Lib.hid hn
  clear h h4 ho hlt hn
  generalize hPP : (fun (e : Ending) (w' : World) => ((Mt.openJ d).2.2 = 0 → ∃ J x j', w.heap.size ≤ J ∧ e = .returned (.tuple #[.pointer (some ⟨J, 0, none⟩), x, .int .i64 0]) ∧ TsN w.heap.size w' x (Mt.findJ d).2 ∧ JD w' J B bl bm j' (Mt.openJ d).1 ∧ LaidJ (Mt.findJ d).2 j' (Mt.openJ d).2.1) ∧
    ((Mt.openJ d).2.2 ≠ 0 → e = .returned (.tuple #[.pointer none, .slice none 0 0, .int .i64 (Mt.openJ d).2.2]) ∧ IsDisk w' B bl bm (Mt.openJ d).1) ∧ OnlyS [B, bl, bm] w w') = PP
  have HPP := Lib.hid hPP
  clear hPP
  go_enter Tryz.func11, Tryz.ntmps11
  go_wp2_with fail
  refine (HS.out).mono ?_
  rintro e w1 ⟨rfl, rfl⟩
  go_wp2_with fail
  refine (HR.out).mono ?_
  rintro e w1 ⟨v, rfl, hts, hb⟩
  have HF1 := Lib.hid (HF.out w1 hb v hts)
  have HB1 := Lib.hid hb
  clear hts hb HF HR HS
  go_wp2_with fail
  refine (HF1.out).mono ?_
  rintro e w2 ⟨x, rfl, hts, hj, hb⟩
  have hb2 := HB1.out.trans (hb.mono HB1.out.size)
  have hjd : JD w2 w1.heap.size B bl bm (Mt.findJ d).1 d := ⟨hj, H.out.below hb2, by rw [HN.out]; exact H4.out, HOK.out.1, HOK.out.2.1, by have := HOK.out.2.2.1; omega, by rw [HOK.out.2.2.2.1]; omega, by rw [HOK.out.2.2.2.2]; omega⟩
  have HLY := Lib.hid (lay_any6 hjd hts.1 (by have := HRC.out.2; omega) HRC.out.1)
  have HTS := Lib.hid hts
  have HJD := Lib.hid hjd
  have HB2 := Lib.hid hb2
  have HJL := Lib.hid HB1.out.size
  clear hts hj hb hb2 hjd HF1
  rw [← HOP.out] at HLY
  generalize w1.heap.size = J at *
  go_wp2_with fail
  refine (HLY.out).mono ?_
  rintro e w3 ⟨rfl, ⟨j3, hd3, hl3⟩, ho3⟩
  have HL3 := Lib.hid hl3
  have HT3 : Hid (TsN w.heap.size w3 x (Mt.findJ d).2) := Lib.hid ⟨IsTs.only HJD.out HTS.out.1 ho3, fun a n c e => Nat.le_trans HJL.out (HTS.out.2 a n c e)⟩
  have HD3 := Lib.hid hd3
  have HO3 : Hid (OnlyS [B, bl, bm] w w3) := Lib.hid ⟨ho3.os.trans HB2.out.os, ho3.tape.trans HB2.out.tape, ho3.output.trans HB2.out.output, Nat.le_trans HB2.out.size ho3.size, fun k hk hS => (ho3.block k (Nat.lt_of_lt_of_le hk HB2.out.size) (by
    have := HJL.out
    simp at hS ⊢
    omega)).trans (HB2.out.block k hk)⟩
  clear hd3 ho3 hl3
  by_cases hE : (Mt.openJ d).2.2 = 0
  · have HE := Lib.hid hE
    have HPF : Hid (PP (.returned (.tuple #[.pointer (some ⟨J, 0, none⟩), x, .int .i64 0])) w3) := Lib.hid (by
      rw [← HPP.out]
      exact ⟨fun _ => ⟨J, x, j3, HJL.out, rfl, HT3.out, HD3.out, HL3.out⟩, fun h => absurd HE.out h, HO3.out⟩)
    rw [hE]
    clear hE
    go_wp2_with fail
    go_ret3
    exact HPF.out
  · have HE := Lib.hid hE
    have HPF : Hid (PP (.returned (.tuple #[.pointer none, .slice none 0 0, .int .i64 (Mt.openJ d).2.2])) w3) := Lib.hid (by
      rw [← HPP.out]
      exact ⟨fun h => absurd h HE.out, fun _ => ⟨rfl, HD3.out.dk⟩, HO3.out⟩)
    generalize (Mt.openJ d).2.2 = E at *
    have hd9 : (E == 0) = false := by simpa using hE
    clear hE
    go_wp2_with fail
    go_ret3
    exact HPF.out
theorem open_on (h : IsDisk w B bl bm d) (h4 : 4 ≤ d.lasts.length) (ho : d.off = false) : Calls Tryz.prog 11 #[.pointer (some ⟨B, 0, none⟩)] w fun e w' =>
    ((Mt.openJ d).2.2 = 0 → ∃ J x j', w.heap.size ≤ J ∧ e = .returned (.tuple #[.pointer (some ⟨J, 0, none⟩), x, .int .i64 0]) ∧ IsTs w' x (Mt.findJ d).2 ∧ JD w' J B bl bm j' (Mt.openJ d).1 ∧ LaidJ (Mt.findJ d).2 j' (Mt.openJ d).2.1) ∧
    ((Mt.openJ d).2.2 ≠ 0 → e = .returned (.tuple #[.pointer none, .slice none 0 0, .int .i64 (Mt.openJ d).2.2]) ∧ IsDisk w' B bl bm (Mt.openJ d).1) ∧ OnlyS [B, bl, bm] w w' :=
  (open_new h h4 ho).mono fun _ _ ⟨h1, h2, h3⟩ => ⟨fun h0 => by
    obtain ⟨J, x, j', a1, a2, a3, a4⟩ := h1 h0
    exact ⟨J, x, j', a1, a2, a3.1, a4⟩, h2, h3⟩
end
end Go.Proofs.YtnioagojiipjlaaGreat

/-
  Plain facts: what the document's Open gathers, sector by sector.
-/
namespace Go.Proofs.YtnioagojiipjlaaGreat
open Go.RowKit
namespace Mt
/-- The current head so far: its generation, its half, its sector (two spellings). -/
structure OpS where
  cur : Nat
  half : Nat
  head : Nat
  slot : Int
def opSt (h : Nat → Nat × Nat) : Nat → OpS
  | 0 => ⟨0, 1, 1, -1⟩
  | i + 1 => if i < 2 ∧ (opSt h i).cur < (h i).1 then ⟨(h i).1, (h i).2, i, i⟩ else opSt h i
def opMost (m : Nat → Nat) : Nat → Nat
  | 0 => 0
  | i + 1 => max (opMost m i) (m i)
def hdAt (d : Dk) (i : Nat) : Nat × Nat := rdHead (d.sec i)
def genAt (d : Dk) (i : Nat) : Nat := if i < 2 then (rdHead (d.sec i)).1 else (rdCell (d.sec i)).gen
theorem opSt_hit {h : Nat → Nat × Nat} {i : Nat} (h1 : i < 2) (h2 : (opSt h i).cur < (h i).1) : opSt h (i + 1) = ⟨(h i).1, (h i).2, i, i⟩ := by rw [opSt, if_pos ⟨h1, h2⟩]
theorem opSt_miss {h : Nat → Nat × Nat} {i : Nat} (h1 : ¬ (i < 2 ∧ (opSt h i).cur < (h i).1)) : opSt h (i + 1) = opSt h i := by rw [opSt, if_neg h1]
theorem opSt_late (h : Nat → Nat × Nat) : ∀ i, opSt h (i + 2) = opSt h 2
  | 0 => rfl
  | i + 1 => by
    show (if i + 2 < 2 ∧ _ then _ else opSt h (i + 2)) = _
    rw [if_neg (by omega), opSt_late h i]
theorem opSt_half (h : Nat → Nat × Nat) (hh : ∀ i, (h i).2 ≤ 1) : ∀ i, (opSt h i).half ≤ 1 ∧ (opSt h i).head ≤ 1 ∧ (((opSt h i).slot = 0 ∧ (opSt h i).head = 0) ∨ ((opSt h i).slot ≠ 0 ∧ (opSt h i).head = 1))
  | 0 => ⟨Nat.le_refl _, Nat.le_refl _, .inr ⟨(by decide : (-1 : Int) ≠ 0), rfl⟩⟩
  | i + 1 => by
    rw [opSt]
    split
    · rename_i h2
      refine ⟨hh i, by show i ≤ 1; omega, ?_⟩
      show ((i : Int) = 0 ∧ i = 0) ∨ ((i : Int) ≠ 0 ∧ i = 1)
      omega
    · exact opSt_half h hh i
theorem opMost_greatest (d : Dk) : ∀ k, opMost (genAt d) (2 + k) = greatest (d.cellsFrom 2 k) (rdHead (d.sec 0)).1 (rdHead (d.sec 1)).1
  | 0 => by
    show max (max 0 (genAt d 0)) (genAt d 1) = max _ _
    unfold genAt
    rw [if_pos (by decide), if_pos (by decide), Nat.zero_max]
  | k + 1 => by
    rw [cellsFrom_snoc, greatest_snoc, ← opMost_greatest d k]
    show max (opMost (genAt d) (2 + k)) (genAt d (2 + k)) = _
    unfold genAt
    rw [if_neg (by omega)]
theorem opMost_lt (d : Dk) : ∀ i, opMost (genAt d) i < 4294967296
  | 0 => by show 0 < 4294967296; decide
  | i + 1 => by
    have h1 := opMost_lt d i
    have h2 : genAt d i < 4294967296 := by
      unfold genAt
      split
      · exact (rdHead_gen _).1
      · exact rdCell_gen _
    show max _ _ < _
    omega
/-- What Open lays. -/
theorem findJ_op (d : Dk) : findJ d = (⟨opMost (genAt d) (2 + 2 * hsize d.lasts.length), (opSt (hdAt d) 2).half, (opSt (hdAt d) 2).head, 0, 0, false⟩,
    if (opSt (hdAt d) 2).cur = 0 then [] else records (d.cellsFrom (2 + (opSt (hdAt d) 2).half * hsize d.lasts.length) (hsize d.lasts.length)) (opSt (hdAt d) 2).cur) := by
  rw [opMost_greatest]
  have h1 : opSt (hdAt d) 1 = if 0 < (rdHead (d.sec 0)).1 then ⟨(rdHead (d.sec 0)).1, (rdHead (d.sec 0)).2, 0, 0⟩ else ⟨0, 1, 1, -1⟩ := by
    by_cases h : 0 < (rdHead (d.sec 0)).1
    · rw [if_pos h]; exact opSt_hit (h := hdAt d) (i := 0) (by decide) h
    · rw [if_neg h]; exact opSt_miss (h := hdAt d) (i := 0) (fun x => h x.2)
  have h2 : opSt (hdAt d) 2 = if (opSt (hdAt d) 1).cur < (rdHead (d.sec 1)).1 then ⟨(rdHead (d.sec 1)).1, (rdHead (d.sec 1)).2, 1, 1⟩ else opSt (hdAt d) 1 := by
    by_cases h : (opSt (hdAt d) 1).cur < (rdHead (d.sec 1)).1
    · rw [if_pos h]; exact opSt_hit (h := hdAt d) (i := 1) (by decide) h
    · rw [if_neg h]; exact opSt_miss (h := hdAt d) (i := 1) (fun x => h x.2)
  rw [h2, h1]
  unfold findJ
  generalize rdHead (d.sec 0) = H0
  generalize rdHead (d.sec 1) = H1
  simp only
  by_cases a : 0 < H0.1
  · rw [if_pos a]
    by_cases b : H1.1 ≤ H0.1
    · rw [if_pos ⟨b, a⟩, if_neg (show ¬ H0.1 < H1.1 by omega), if_neg (show ¬ H0.1 = 0 by omega)]
    · rw [if_neg (fun x => b x.1), if_neg (show ¬ H1.1 = 0 by omega), if_pos (show H0.1 < H1.1 by omega), if_neg (show ¬ H1.1 = 0 by omega)]
  · rw [if_neg a, if_neg (fun x => a x.2)]
    by_cases b : H1.1 = 0
    · rw [if_pos b, if_neg (show ¬ 0 < H1.1 by omega), if_pos rfl]
    · rw [if_neg b, if_pos (show 0 < H1.1 by omega), if_neg b]
end Mt
end Go.Proofs.YtnioagojiipjlaaGreat

/-
  The example, reckoned: a new disk of six sectors, opened, with a record, crashed, opened again.
-/
namespace Go.Proofs.YtnioagojiipjlaaGreat.Mt
/-- The journal of a new disk; behind one record; behind a loss of power. -/
def aw0 : Dk := Dk.new 6
def aw1 : Dk × Jn × Int := openJ aw0
def aw2 : Dk × Jn × Int := appendJ aw1.1 aw1.2.1 [97]
def aw3 : Dk := aw2.1.crash 0 (-1) 0
theorem aw0_none : (findJ aw0).2 = [] := by decide +kernel
theorem aw1_ok : aw1.2.2 = 0 := by decide +kernel
theorem aw1_in : aw1.2.1.gen = 1 ∧ aw1.2.1.count = 0 ∧ aw1.2.1.used = 0 := by decide +kernel
theorem aw2_ok : aw2.2.2 = 0 := by decide +kernel
theorem aw2_in : aw2.2.1.gen = 1 ∧ aw2.2.1.left aw2.1 = 1 := by decide +kernel
theorem aw3_in : 4 ≤ aw3.lasts.length ∧ aw3.off = false := by decide +kernel
theorem aw3_recs : (findJ aw3).2 = [[97]] := by decide +kernel
theorem aw3_ok : (openJ aw3).2.2 = 0 := by decide +kernel
end Go.Proofs.YtnioagojiipjlaaGreat.Mt
