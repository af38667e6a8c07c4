/-
  Some texts of one proof, one behind the other.
-/
import Derived.Test.YtnioagojiipjlaaGreatPk19
import Derived.Test.YtnioagojiipjlaaGreatPk22

/-
  What Open comes to.
-/
namespace Go.Proofs.YtnioagojiipjlaaGreat
open Go.RowKit
theorem Mt.record_size {l : List Mt.Cl} (h : ∀ c ∈ l, c.body.length ≤ 110) (gen k : Nat) : (Mt.record l gen k).1.length ≤ 110 * l.length := by
  unfold Mt.record
  split
  · simp
  · split
    · show (Mt.bodyOf l _).length ≤ _
      have := Mt.bodyOf_le l h (l.getD 0 Mt.Cl.zero).parts
      rename_i h1 _
      have h2 : (l.getD 0 Mt.Cl.zero).parts ≤ l.length := by omega
      exact Nat.le_trans this (Nat.mul_le_mul_left _ h2)
    · simp
theorem Mt.recordsF_size : ∀ (f : Nat) (l : List Mt.Cl) (gen k n : Nat), (∀ c ∈ l, c.body.length ≤ 110) → l.length ≤ n → ∀ b ∈ Mt.recordsF f l gen k, b.length ≤ 110 * n
  | 0, _, _, _, _, _, _, b, hb => by simp [Mt.recordsF] at hb
  | f + 1, l, gen, k, n, h, hn, b, hb => by
    unfold Mt.recordsF at hb
    split at hb
    · simp at hb
    · rw [List.mem_cons] at hb
      rcases hb with rfl | hb
      · exact Nat.le_trans (Mt.record_size h gen k) (Nat.mul_le_mul_left _ hn)
      · exact Mt.recordsF_size f _ gen (k + 1) n (fun c hc => h c (List.mem_of_mem_drop hc)) (by rw [List.length_drop]; omega) b hb
theorem Mt.recordsF_len : ∀ (f : Nat) (l : List Mt.Cl) (gen k : Nat), (Mt.recordsF f l gen k).length ≤ l.length
  | 0, _, _, _ => by simp [Mt.recordsF]
  | f + 1, l, gen, k => by
    unfold Mt.recordsF
    split
    · simp
    · rename_i hx
      have h1 := Mt.recordsF_len f (l.drop (Mt.record l gen k).2) gen (k + 1)
      rw [List.length_drop] at h1
      rw [List.length_cons]
      have : (Mt.record l gen k).2 ≠ 0 := fun e => hx (.inr e)
      have : 0 < l.length := by
        rcases Nat.eq_zero_or_pos l.length with h | h
        · exact absurd (.inl h) hx
        · exact h
      omega
theorem Mt.findJ_recs (d : Mt.Dk) (hd : d.lasts.length ≤ 8192) : (∀ b ∈ (Mt.findJ d).2, b.length ≤ 1048576) ∧ (Mt.findJ d).2.length ≤ 8192 := by
  have hz : Mt.hsize d.lasts.length ≤ 4095 := by unfold Mt.hsize; omega
  have H : ∀ a gen, (∀ b ∈ Mt.records (d.cellsFrom a (Mt.hsize d.lasts.length)) gen, b.length ≤ 1048576) ∧ (Mt.records (d.cellsFrom a (Mt.hsize d.lasts.length)) gen).length ≤ 8192 := fun a gen => by
    refine ⟨fun b hb => ?_, ?_⟩
    · have := Mt.recordsF_size _ _ gen 0 4095 (Mt.row_body d a _) (by rw [Mt.cellsFrom_length]; exact hz) b hb
      omega
    · have := Mt.recordsF_len (d.cellsFrom a (Mt.hsize d.lasts.length)).length (d.cellsFrom a (Mt.hsize d.lasts.length)) gen 0
      rw [Mt.cellsFrom_length] at this
      unfold Mt.records
      rw [Mt.cellsFrom_length]
      omega
  unfold Mt.findJ
  simp only
  split
  · exact H _ _
  · split
    · simp
    · exact H _ _
theorem Mt.findJ_ok (d : Mt.Dk) : (Mt.findJ d).1.half ≤ 1 ∧ (Mt.findJ d).1.head ≤ 1 ∧ (Mt.findJ d).1.gen < 4294967296 ∧ (Mt.findJ d).1.used = 0 ∧ (Mt.findJ d).1.count = 0 := by
  have h0 := Mt.rdHead_gen (d.sec 0)
  have h1 := Mt.rdHead_gen (d.sec 1)
  have hM : Mt.greatest (d.cellsFrom 2 (2 * Mt.hsize d.lasts.length)) (Mt.rdHead (d.sec 0)).1 (Mt.rdHead (d.sec 1)).1 < 4294967296 := Mt.greatest_lt _ _ _ (fun c hc => by
    unfold Mt.Dk.cellsFrom at hc
    rw [List.mem_map] at hc
    obtain ⟨i, _, rfl⟩ := hc
    exact Mt.rdCell_gen _) h0.1 h1.1
  unfold Mt.findJ
  simp only
  split
  · exact ⟨h0.2, by show 0 ≤ 1; omega, hM, rfl, rfl⟩
  · split
    · exact ⟨Nat.le_refl _, Nat.le_refl _, hM, rfl, rfl⟩
    · exact ⟨h1.2, Nat.le_refl _, hM, rfl, rfl⟩
/-- What Open comes to. -/
def Mt.openJ (d : Mt.Dk) : Mt.Dk × Mt.Jn × Int := Mt.layJ d (Mt.findJ d).1 (Mt.findJ d).2
section
variable {w u : World} {B bl bm : Nat} {d : Mt.Dk}
theorem open_nil6 (w : World) : Calls Tryz.prog 11 #[.pointer none] w fun e w' => e = .returned (.tuple #[.pointer none, .slice none 0 0, .int .i64 1]) ∧ w = w' := by
  go_enter Tryz.func11, Tryz.ntmps11
  go_wp2
  go_ret3
  exact ⟨rfl, rfl⟩
theorem open_small (h : IsDisk w B bl bm d) (h4 : d.lasts.length < 4) : Calls Tryz.prog 11 #[.pointer (some ⟨B, 0, none⟩)] w fun e w' => e = .returned (.tuple #[.pointer none, .slice none 0 0, .int .i64 2]) ∧ w = w' := by
  have HS := Lib.hid (sectors_any h)
  generalize d.lasts.length = n at *
  have hd : decide ((n : Int) < 4) = true := decide_eq_true (by omega)
  have hd2 : decide (n < 4) = true := decide_eq_true h4
  clear h h4
  go_enter Tryz.func11, Tryz.ntmps11
  go_wp2_with fail
  refine (HS.out).mono ?_
  rintro e w1 ⟨rfl, rfl⟩
  go_wp2_with fail
  go_ret3
  exact ⟨rfl, rfl⟩
theorem open_off (h : IsDisk w B bl bm d) (h4 : 4 ≤ d.lasts.length) (ho : d.off = true) : Calls Tryz.prog 11 #[.pointer (some ⟨B, 0, none⟩)] w fun e w' => e = .returned (.tuple #[.pointer none, .slice none 0 0, .int .i64 10]) ∧ Below w.heap.size w w' := by
  have HS := Lib.hid (sectors_any h)
  have HR := Lib.hid (readAll_off h ho (by omega))
  generalize d.lasts.length = n at *
  have hd : decide ((n : Int) < 4) = false := decide_eq_false (by omega)
  have hd2 : decide (n < 4) = false := decide_eq_false (by omega)
  clear h h4 ho
  go_enter Tryz.func11, Tryz.ntmps11
  go_wp2_with fail
  refine (HS.out).mono ?_
  rintro e w1 ⟨rfl, rfl⟩
  go_wp2_with fail
  refine (HR.out).mono ?_
  rintro e w1 ⟨rfl, hb⟩
  have HB := Lib.hid hb
  clear hb
  go_wp2_with fail
  go_ret3
  exact ⟨rfl, HB.out⟩
set_option maxRecDepth 100000 in
theorem open_new (h : IsDisk w B bl bm d) (h4 : 4 ≤ d.lasts.length) (ho : d.off = false) : Calls Tryz.prog 11 #[.pointer (some ⟨B, 0, none⟩)] w fun e w' =>
    ((Mt.openJ d).2.2 = 0 → ∃ J x j', w.heap.size ≤ J ∧ e = .returned (.tuple #[.pointer (some ⟨J, 0, none⟩), x, .int .i64 0]) ∧ TsN w.heap.size w' x (Mt.findJ d).2 ∧ JD w' J B bl bm j' (Mt.openJ d).1 ∧ LaidJ (Mt.findJ d).2 j' (Mt.openJ d).2.1) ∧
    ((Mt.openJ d).2.2 ≠ 0 → e = .returned (.tuple #[.pointer none, .slice none 0 0, .int .i64 (Mt.openJ d).2.2]) ∧ IsDisk w' B bl bm (Mt.openJ d).1) ∧ OnlyS [B, bl, bm] w w' := by
  have HS := Lib.hid (sectors_any h)
  have HR := Lib.hid (readAll_on h ho)
  have H := Lib.hid h
  have H4 := Lib.hid h4
  have HF := Lib.hid (fun (u : World) (hu : Below w.heap.size w u) (v : Value) (hv : IsTs u v (Mt.secsL d)) => find_new (h.below hu) h4 hv)
  have HRC := Lib.hid (Mt.findJ_recs d h.ok.most)
  have HOK := Lib.hid (Mt.findJ_ok d)
  have HOP := Lib.hid (show Mt.openJ d = Mt.layJ d (Mt.findJ d).1 (Mt.findJ d).2 from rfl)
  have hlt : B < w.heap.size ∧ bl < w.heap.size ∧ bm < w.heap.size := ⟨h.ltB, h.ltL, h.ltM⟩
  have HLT := Lib.hid hlt
  generalize hn : d.lasts.length = n at HS H4
  have hd : decide ((n : Int) < 4) = false := decide_eq_false (by omega)
  have hd2 : decide (n < 4) = false := decide_eq_false (by omega)
  have HN := Lib.hid hn
  clear h h4 ho hlt hn
  generalize hPP : (fun (e : Ending) (w' : World) => ((Mt.openJ d).2.2 = 0 → ∃ J x j', w.heap.size ≤ J ∧ e = .returned (.tuple #[.pointer (some ⟨J, 0, none⟩), x, .int .i64 0]) ∧ TsN w.heap.size w' x (Mt.findJ d).2 ∧ JD w' J B bl bm j' (Mt.openJ d).1 ∧ LaidJ (Mt.findJ d).2 j' (Mt.openJ d).2.1) ∧
    ((Mt.openJ d).2.2 ≠ 0 → e = .returned (.tuple #[.pointer none, .slice none 0 0, .int .i64 (Mt.openJ d).2.2]) ∧ IsDisk w' B bl bm (Mt.openJ d).1) ∧ OnlyS [B, bl, bm] w w') = PP
  have HPP := Lib.hid hPP
  clear hPP
  go_enter Tryz.func11, Tryz.ntmps11
  go_wp2_with fail
  refine (HS.out).mono ?_
  rintro e w1 ⟨rfl, rfl⟩
  go_wp2_with fail
  refine (HR.out).mono ?_
  rintro e w1 ⟨v, rfl, hts, hb⟩
  have HF1 := Lib.hid (HF.out w1 hb v hts)
  have HB1 := Lib.hid hb
  clear hts hb HF HR HS
  go_wp2_with fail
  refine (HF1.out).mono ?_
  rintro e w2 ⟨x, rfl, hts, hj, hb⟩
  have hb2 := HB1.out.trans (hb.mono HB1.out.size)
  have hjd : JD w2 w1.heap.size B bl bm (Mt.findJ d).1 d := ⟨hj, H.out.below hb2, by rw [HN.out]; exact H4.out, HOK.out.1, HOK.out.2.1, by have := HOK.out.2.2.1; omega, by rw [HOK.out.2.2.2.1]; omega, by rw [HOK.out.2.2.2.2]; omega⟩
  have HLY := Lib.hid (lay_any6 hjd hts.1 (by have := HRC.out.2; omega) HRC.out.1)
  have HTS := Lib.hid hts
  have HJD := Lib.hid hjd
  have HB2 := Lib.hid hb2
  have HJL := Lib.hid HB1.out.size
  clear hts hj hb hb2 hjd HF1
  rw [← HOP.out] at HLY
  generalize w1.heap.size = J at *
  go_wp2_with fail
  refine (HLY.out).mono ?_
  rintro e w3 ⟨rfl, ⟨j3, hd3, hl3⟩, ho3⟩
  have HL3 := Lib.hid hl3
  have HT3 : Hid (TsN w.heap.size w3 x (Mt.findJ d).2) := Lib.hid ⟨IsTs.only HJD.out HTS.out.1 ho3, fun a n c e => Nat.le_trans HJL.out (HTS.out.2 a n c e)⟩
  have HD3 := Lib.hid hd3
  have HO3 : Hid (OnlyS [B, bl, bm] w w3) := Lib.hid ⟨ho3.os.trans HB2.out.os, ho3.tape.trans HB2.out.tape, ho3.output.trans HB2.out.output, Nat.le_trans HB2.out.size ho3.size, fun k hk hS => (ho3.block k (Nat.lt_of_lt_of_le hk HB2.out.size) (by
    have := HJL.out
    simp at hS ⊢
    omega)).trans (HB2.out.block k hk)⟩
  clear hd3 ho3 hl3
  by_cases hE : (Mt.openJ d).2.2 = 0
  · have HE := Lib.hid hE
    have HPF : Hid (PP (.returned (.tuple #[.pointer (some ⟨J, 0, none⟩), x, .int .i64 0])) w3) := Lib.hid (by
      rw [← HPP.out]
      exact ⟨fun _ => ⟨J, x, j3, HJL.out, rfl, HT3.out, HD3.out, HL3.out⟩, fun h => absurd HE.out h, HO3.out⟩)
    rw [hE]
    clear hE
    go_wp2_with fail
    go_ret3
    exact HPF.out
  · have HE := Lib.hid hE
    have HPF : Hid (PP (.returned (.tuple #[.pointer none, .slice none 0 0, .int .i64 (Mt.openJ d).2.2])) w3) := Lib.hid (by
      rw [← HPP.out]
      exact ⟨fun h => absurd h HE.out, fun _ => ⟨rfl, HD3.out.dk⟩, HO3.out⟩)
    generalize (Mt.openJ d).2.2 = E at *
    have hd9 : (E == 0) = false := by simpa using hE
    clear hE
    go_wp2_with fail
    go_ret3
    exact HPF.out
theorem open_on (h : IsDisk w B bl bm d) (h4 : 4 ≤ d.lasts.length) (ho : d.off = false) : Calls Tryz.prog 11 #[.pointer (some ⟨B, 0, none⟩)] w fun e w' =>
    ((Mt.openJ d).2.2 = 0 → ∃ J x j', w.heap.size ≤ J ∧ e = .returned (.tuple #[.pointer (some ⟨J, 0, none⟩), x, .int .i64 0]) ∧ IsTs w' x (Mt.findJ d).2 ∧ JD w' J B bl bm j' (Mt.openJ d).1 ∧ LaidJ (Mt.findJ d).2 j' (Mt.openJ d).2.1) ∧
    ((Mt.openJ d).2.2 ≠ 0 → e = .returned (.tuple #[.pointer none, .slice none 0 0, .int .i64 (Mt.openJ d).2.2]) ∧ IsDisk w' B bl bm (Mt.openJ d).1) ∧ OnlyS [B, bl, bm] w w' :=
  (open_new h h4 ho).mono fun _ _ ⟨h1, h2, h3⟩ => ⟨fun h0 => by
    obtain ⟨J, x, j', a1, a2, a3, a4⟩ := h1 h0
    exact ⟨J, x, j', a1, a2, a3.1, a4⟩, h2, h3⟩
end
end Go.Proofs.YtnioagojiipjlaaGreat

/-
  The example, reckoned: a new disk of six sectors, opened, with a record, crashed, opened again.
-/
namespace Go.Proofs.YtnioagojiipjlaaGreat.Mt
/-- The journal of a new disk; behind one record; behind a loss of power. -/
def aw0 : Dk := Dk.new 6
def aw1 : Dk × Jn × Int := openJ aw0
def aw2 : Dk × Jn × Int := appendJ aw1.1 aw1.2.1 [97]
def aw3 : Dk := aw2.1.crash 0 (-1) 0
theorem aw0_none : (findJ aw0).2 = [] := by decide +kernel
theorem aw1_ok : aw1.2.2 = 0 := by decide +kernel
theorem aw1_in : aw1.2.1.gen = 1 ∧ aw1.2.1.count = 0 ∧ aw1.2.1.used = 0 := by decide +kernel
theorem aw2_ok : aw2.2.2 = 0 := by decide +kernel
theorem aw2_in : aw2.2.1.gen = 1 ∧ aw2.2.1.left aw2.1 = 1 := by decide +kernel
theorem aw3_in : 4 ≤ aw3.lasts.length ∧ aw3.off = false := by decide +kernel
theorem aw3_recs : (findJ aw3).2 = [[97]] := by decide +kernel
theorem aw3_ok : (openJ aw3).2.2 = 0 := by decide +kernel
end Go.Proofs.YtnioagojiipjlaaGreat.Mt

/-
  A journal laid on a disk with power and room, read again: the same records, and the next generation. Nothing of the program stands here.
-/
namespace Go.Proofs.YtnioagojiipjlaaGreat.Mt

/-- A disk with power and room, and no loss asked for. -/
structure Dk.Calm (d : Dk) : Prop where
  ok : d.Ok
  off : d.off = false
  cut : d.cut = 0
  room : d.room = d.lasts.length
theorem sec_eq {d : Dk} (h : d.off = false) {i : Nat} (hi : i < d.lasts.length) : d.sec i = (d.waits.getD i none).getD (d.lasts.getD i []) := by
  have : d.ask (i : Int) = 0 := by unfold Dk.ask; rw [h]; simp; omega
  unfold Dk.sec Dk.read
  rw [if_pos this]
  simp
theorem Dk.Calm.write {d : Dk} (h : d.Calm) {a : Nat} {s : List UInt8} (ha : a < d.lasts.length) (hs : s.length = 128) :
    (d.write (a : Int) s).2 = 0 ∧ (d.write (a : Int) s).1.Calm ∧ (d.write (a : Int) s).1.lasts.length = d.lasts.length ∧ ∀ i, i < d.lasts.length → (d.write (a : Int) s).1.sec i = if i = a then s else d.sec i := by
  have hask : d.ask (a : Int) = 0 := by unfold Dk.ask; rw [h.off]; simp; omega
  have hlt : (a : Int) < (d.room : Int) := by rw [h.room]; omega
  have hw : d.write (a : Int) s = ({ d with waits := d.waits.set a (some s) }, 0) := by
    unfold Dk.write
    rw [if_pos hask, if_pos hs, if_pos hlt]
    unfold Dk.count
    simp [h.cut]
  have hokc : ({ d with waits := d.waits.set a (some s) } : Dk).Ok := h.ok.wait a s hs
  rw [hw]
  refine ⟨rfl, ⟨hokc, h.off, h.cut, h.room⟩, rfl, fun i hi => ?_⟩
  rw [sec_eq (d := { d with waits := d.waits.set a (some s) }) h.off hi, sec_eq h.off hi]
  simp only [List.getD_eq_getElem?_getD, List.getElem?_set]
  by_cases e : i = a
  · subst e
    rw [if_pos rfl, if_pos rfl, if_pos (by rw [h.ok.len]; exact hi)]
    rfl
  · rw [if_neg (fun x => e x.symm), if_neg e]
theorem Dk.Calm.flush {d : Dk} (h : d.Calm) : d.flush.2 = 0 ∧ d.flush.1.Calm ∧ d.flush.1.lasts.length = d.lasts.length ∧ (∀ i, i < d.lasts.length → d.flush.1.sec i = d.sec i) ∧ d.flush.1.waits = noWaits d.lasts.length := by
  have hc : d.count = (d, 0) := by unfold Dk.count; simp [h.cut]
  have hw : d.flush = (d.flushed, 0) := by
    unfold Dk.flush
    rw [h.off, hc]; rfl
  have hl : d.flushed.lasts.length = d.lasts.length := over_length _ _ h.ok.len
  rw [hw]
  refine ⟨rfl, ⟨h.ok.flushed, h.off, h.cut, by show d.room = d.flushed.lasts.length; rw [hl]; exact h.room⟩, hl, fun i hi => ?_, rfl⟩
  rw [sec_eq (d := d.flushed) h.off (by rw [hl]; exact hi), sec_eq h.off hi]
  show ((noWaits d.lasts.length).getD i none).getD ((over d.lasts d.waits).getD i []) = _
  have h1 : (noWaits d.lasts.length).getD i none = none := by unfold noWaits; rw [List.getD_eq_getElem?_getD, List.getElem?_replicate]; split <;> rfl
  have hwi : i < d.waits.length := by rw [h.ok.len]; exact hi
  rw [h1]
  simp only [Option.getD_none, over, List.getD_eq_getElem?_getD, List.getElem?_zipWith, List.getElem?_eq_getElem hi, List.getElem?_eq_getElem hwi, Option.getD_some]
theorem Dk.Calm.wrS : ∀ (l : List (List UInt8)) (d : Dk) (a : Nat), d.Calm → (∀ s ∈ l, s.length = 128) → a + l.length ≤ d.lasts.length →
    (wrS d a l).2 = 0 ∧ (Mt.wrS d a l).1.Calm ∧ ∀ i, i < d.lasts.length → (Mt.wrS d a l).1.sec i = if a ≤ i ∧ i < a + l.length then l.getD (i - a) [] else d.sec i
  | [], d, a, h, _, _ => ⟨rfl, h, fun i _ => by rw [if_neg (by simp)]; rfl⟩
  | s :: r, d, a, h, hs, hl => by
    have hw := h.write (a := a) (s := s) (by simp at hl; omega) (hs s (List.mem_cons_self ..))
    have ih := Dk.Calm.wrS r (d.write (a : Int) s).1 (a + 1) hw.2.1 (fun x hx => hs x (List.mem_cons_of_mem _ hx)) (by rw [hw.2.2.1]; simp at hl; omega)
    have e : Mt.wrS d a (s :: r) = Mt.wrS (d.write (a : Int) s).1 (a + 1) r := by
      conv => lhs; unfold Mt.wrS
      rw [if_pos hw.1]
    rw [e]
    refine ⟨ih.1, ih.2.1, fun i hi => ?_⟩
    rw [ih.2.2 i (by rw [hw.2.2.1]; exact hi), hw.2.2.2 i hi]
    by_cases h1 : a + 1 ≤ i ∧ i < a + 1 + r.length
    · rw [if_pos h1, if_pos (by simp; omega), show i - a = (i - (a + 1)) + 1 by omega, List.getD_cons_succ]
    · rw [if_neg h1]
      by_cases h2 : i = a
      · subst h2
        rw [if_pos rfl, if_pos (by simp), Nat.sub_self, List.getD_cons_zero]
      · rw [if_neg h2, if_neg (by simp; omega)]

theorem getD_left (a b : List Cl) (i : Nat) (h : i < a.length) (x : Cl) : (a ++ b).getD i x = a.getD i x := by
  rw [List.getD_eq_getElem?_getD, List.getD_eq_getElem?_getD, List.getElem?_append_left h]
theorem getD_right (a b : List Cl) (i : Nat) (h : a.length ≤ i) (x : Cl) : (a ++ b).getD i x = b.getD (i - a.length) x := by
  rw [List.getD_eq_getElem?_getD, List.getD_eq_getElem?_getD, List.getElem?_append_right h]
/-- All cells of bodies. -/
def cellsB (gen : Nat) : Nat → List (List UInt8) → List Cl
  | _, [] => []
  | n, b :: r => (List.range (cellsN b.length)).map (cellAt gen n b) ++ cellsB gen (n + 1) r
theorem cellsB_length (gen : Nat) : ∀ (n : Nat) (bs : List (List UInt8)), (cellsB gen n bs).length = needs bs
  | _, [] => rfl
  | n, b :: r => by simp [cellsB, needs, cellsB_length gen (n + 1) r]
theorem cellAt_body (gen n : Nat) (b : List UInt8) (i : Nat) : (cellAt gen n b i).body.length ≤ 110 := by
  show ((b.drop _).take _).length ≤ 110
  rw [List.length_take]; omega
theorem Dk.Calm.putsJ : ∀ (bs : List (List UInt8)) (d : Dk) (j : Jn), d.Calm → j.first d.lasts.length + j.used + needs bs ≤ d.lasts.length →
    (Mt.putsJ d j bs).2.2 = 0 ∧ (Mt.putsJ d j bs).1.Calm ∧ ∀ i, i < d.lasts.length → (Mt.putsJ d j bs).1.sec i = if j.first d.lasts.length + j.used ≤ i ∧ i < j.first d.lasts.length + j.used + needs bs then ((cellsB j.gen j.count bs).getD (i - (j.first d.lasts.length + j.used)) Cl.zero).sector else d.sec i
  | [], d, j, h, _ => ⟨rfl, h, fun i _ => by rw [if_neg (by simp [needs])]; rfl⟩
  | b :: r, d, j, h, hl => by
    have hn : needs (b :: r) = cellsN b.length + needs r := rfl
    rw [hn] at hl ⊢
    have hsl : (secsOf j.gen j.count b).length = cellsN b.length := by simp [secsOf]
    have hw := Dk.Calm.wrS (secsOf j.gen j.count b) d (j.first d.lasts.length + j.used) h (fun s hs => by
      unfold secsOf at hs
      rw [List.mem_map] at hs
      obtain ⟨i, _, rfl⟩ := hs
      exact Cl.sector_length (cellAt_body _ _ _ _)) (by rw [hsl]; omega)
    rw [hsl] at hw
    have hp : Mt.putJ d j b = ((Mt.wrS d (j.first d.lasts.length + j.used) (secsOf j.gen j.count b)).1, { j with count := j.count + 1, used := j.used + cellsN b.length }, 0) := by
      unfold Mt.putJ
      rw [if_pos hw.1]
    have hlen := wrS_len (secsOf j.gen j.count b) d (j.first d.lasts.length + j.used)
    have ih := Dk.Calm.putsJ r (Mt.putJ d j b).1 (Mt.putJ d j b).2.1 (by rw [hp]; exact hw.2.1) (by
      rw [hp]
      show 2 + j.half * hsize (Mt.wrS _ _ _).1.lasts.length + (j.used + cellsN b.length) + needs r ≤ (Mt.wrS _ _ _).1.lasts.length
      rw [hlen]
      have : j.first d.lasts.length = 2 + j.half * hsize d.lasts.length := rfl
      omega)
    have e : Mt.putsJ d j (b :: r) = Mt.putsJ (Mt.putJ d j b).1 (Mt.putJ d j b).2.1 r := by
      conv => lhs; unfold Mt.putsJ
      rw [if_pos (by rw [hp])]
    rw [e]
    refine ⟨ih.1, ih.2.1, fun i hi => ?_⟩
    have hl1 : (Mt.putJ d j b).1.lasts.length = d.lasts.length := by rw [hp]; exact hlen
    have hf : (Mt.putJ d j b).2.1.first (Mt.putJ d j b).1.lasts.length = j.first d.lasts.length := by rw [hl1, hp]; rfl
    have hu : (Mt.putJ d j b).2.1.used = j.used + cellsN b.length := by rw [hp]
    have hc : (Mt.putJ d j b).2.1.count = j.count + 1 := by rw [hp]
    have hg : (Mt.putJ d j b).2.1.gen = j.gen := by rw [hp]
    have ih2 := ih.2.2 i (by rw [hl1]; exact hi)
    rw [hf, hu, hc, hg] at ih2
    rw [ih2, show (Mt.putJ d j b).1.sec i = (Mt.wrS d (j.first d.lasts.length + j.used) (secsOf j.gen j.count b)).1.sec i by rw [hp], hw.2.2 i hi]
    have hA : j.first d.lasts.length + (j.used + cellsN b.length) = j.first d.lasts.length + j.used + cellsN b.length := by omega
    have hml : ((List.range (cellsN b.length)).map (cellAt j.gen j.count b)).length = cellsN b.length := by simp
    rw [hA]
    generalize j.first d.lasts.length + j.used = A
    have hcb : cellsB j.gen j.count (b :: r) = (List.range (cellsN b.length)).map (cellAt j.gen j.count b) ++ cellsB j.gen (j.count + 1) r := rfl
    rw [hcb]
    by_cases h1 : A + cellsN b.length ≤ i ∧ i < A + cellsN b.length + needs r
    · rw [if_pos h1, if_pos (by omega), getD_right _ _ _ (by rw [hml]; omega), hml, show i - A - cellsN b.length = i - (A + cellsN b.length) by omega]
    · rw [if_neg h1]
      by_cases h2 : A ≤ i ∧ i < A + cellsN b.length
      · rw [if_pos h2, if_pos (by omega), getD_left _ _ _ (by rw [hml]; omega)]
        have hk : i - A < cellsN b.length := by omega
        unfold secsOf
        simp only [List.getD_eq_getElem?_getD, List.getElem?_map, List.getElem?_range hk, Option.map_some, Option.getD_some]
      · rw [if_neg h2, if_neg (by omega)]

/-! ### what was laid is read -/
theorem cellAt_sound (gen n : Nat) (b : List UInt8) (i : Nat) (hg : 0 < gen) (hi : i < cellsN b.length) : (cellAt gen n b i).sound = true := by
  have hbl : (cellAt gen n b i).body.length = min 110 (b.length - 110 * i) := by
    show ((b.drop _).take _).length = _
    rw [List.length_take, List.length_drop]
  have hN : cellsN b.length = max 1 ((b.length + 109) / 110) := rfl
  unfold Cl.sound
  rw [if_neg (by show ¬ (gen = 0 ∨ cellsN b.length ≤ i); omega)]
  show (if i + 1 < cellsN b.length then decide ((cellAt gen n b i).body.length = 110) else (decide (0 < (cellAt gen n b i).body.length) || decide (cellsN b.length = 1))) = true
  rw [hbl]
  split
  · rw [decide_eq_true_eq]; omega
  · rw [Bool.or_eq_true, decide_eq_true_eq, decide_eq_true_eq]; omega
theorem cellAt_fits (gen n : Nat) (b : List UInt8) (i : Nat) (hg : gen < 4294967296) (hn : n < 4294967296) (hb : b.length ≤ 1048576) (hi : i < cellsN b.length) : (cellAt gen n b i).Fits :=
  have h9 : cellsN b.length ≤ 9534 := by unfold cellsN; omega
  ⟨hg, hn, by show i < 65536; omega, by show cellsN b.length < 65536; omega, cellAt_body _ _ _ _⟩
theorem body_parts (gen n : Nat) (b : List UInt8) : ∀ k, (((List.range k).map (cellAt gen n b)).map (·.body)).flatten = b.take (110 * k)
  | 0 => by simp
  | k + 1 => by
    rw [List.range_succ, List.map_append, List.map_append, List.flatten_append, body_parts gen n b k]
    show b.take (110 * k) ++ [((b.drop (110 * k)).take 110)].flatten = _
    rw [List.flatten_cons, List.flatten_nil, List.append_nil, show 110 * (k + 1) = 110 * k + 110 by omega, List.take_add]
theorem bodyOf_laid (gen n : Nat) (b : List UInt8) (rest : List Cl) : bodyOf ((List.range (cellsN b.length)).map (cellAt gen n b) ++ rest) (cellsN b.length) = b := by
  unfold bodyOf
  rw [List.take_left' (by simp), body_parts]
  exact List.take_of_length_le (by unfold cellsN; omega)
/-- A body that was laid is the record there. -/
theorem record_laid (gen n : Nat) (b : List UInt8) (rest : List Cl) : record ((List.range (cellsN b.length)).map (cellAt gen n b) ++ rest) gen n = (b, cellsN b.length) := by
  have h1 : 1 ≤ cellsN b.length := by unfold cellsN; omega
  have hg : ∀ i, i < cellsN b.length → ((List.range (cellsN b.length)).map (cellAt gen n b) ++ rest).getD i Cl.zero = cellAt gen n b i := fun i hi => by
    rw [getD_left _ _ _ (by simpa using hi)]
    simp only [List.getD_eq_getElem?_getD, List.getElem?_map, List.getElem?_range hi, Option.map_some, Option.getD_some]
  have hp : (((List.range (cellsN b.length)).map (cellAt gen n b) ++ rest).getD 0 Cl.zero).parts = cellsN b.length := by rw [hg 0 (by omega)]; rfl
  unfold record
  rw [hp, if_neg (by rw [List.length_append, List.length_map, List.length_range]; omega), if_pos, bodyOf_laid]
  unfold recOk
  rw [List.all_eq_true]
  intro i hi
  rw [List.mem_range] at hi
  rw [hg i hi]
  simp [cellAt]
/-- Bodies that were laid are the records there, up to the first cell of another generation. -/
theorem records_laid (gen : Nat) : ∀ (bs : List (List UInt8)) (n : Nat) (rest : List Cl) (f : Nat), (cellsB gen n bs ++ rest).length ≤ f → (∀ c ∈ rest, c.gen ≠ gen ∨ c.parts = 0) → recordsF f (cellsB gen n bs ++ rest) gen n = bs
  | [], n, rest, f, hf, hr => by
    cases f with
    | zero => rfl
    | succ f =>
      unfold recordsF
      rw [if_pos]
      cases rest with
      | nil => left; rfl
      | cons c r =>
        right
        show (record (c :: r) gen n).2 = 0
        unfold record
        have hc : ((c :: r).getD 0 Cl.zero) = c := rfl
        rw [hc]
        split
        · rfl
        · split
          · rename_i h1 h2
            show c.parts = 0
            rcases Nat.eq_zero_or_pos c.parts with h0 | h0
            · exact h0
            · rcases hr c (List.mem_cons_self ..) with h3 | h3
              · exfalso
                unfold recOk at h2
                rw [List.all_eq_true] at h2
                have := h2 0 (List.mem_range.2 h0)
                rw [hc] at this
                simp only [Bool.and_eq_true, decide_eq_true_eq] at this
                exact h3 this.1.1.1
              · exact h3
          · rfl
  | b :: r, n, rest, f, hf, hr => by
    have e : cellsB gen n (b :: r) ++ rest = (List.range (cellsN b.length)).map (cellAt gen n b) ++ (cellsB gen (n + 1) r ++ rest) := by
      show ((List.range (cellsN b.length)).map (cellAt gen n b) ++ cellsB gen (n + 1) r) ++ rest = _
      rw [List.append_assoc]
    rw [e] at hf ⊢
    have h1 : 1 ≤ cellsN b.length := by unfold cellsN; omega
    cases f with
    | zero => simp at hf; omega
    | succ f =>
      unfold recordsF
      have hne : ¬ (((List.range (cellsN b.length)).map (cellAt gen n b) ++ (cellsB gen (n + 1) r ++ rest)).length = 0 ∨ ((b, cellsN b.length) : List UInt8 × Nat).2 = 0) := by
        rintro (h | h)
        · rw [List.length_append, List.length_map, List.length_range] at h; omega
        · have h' : cellsN b.length = 0 := h
          omega
      rw [record_laid, if_neg hne]
      simp only
      rw [List.drop_left' (by simp), records_laid gen r (n + 1) rest f (by simp at hf ⊢; omega) hr]
end Go.Proofs.YtnioagojiipjlaaGreat.Mt

/-
  A journal laid on a disk with power and room, opened again. Nothing of the program stands here.
-/
namespace Go.Proofs.YtnioagojiipjlaaGreat.Mt

theorem greatest_ge (l : List Cl) (a b : Nat) : a ≤ greatest l a b ∧ b ≤ greatest l a b ∧ ∀ c ∈ l, c.gen ≤ greatest l a b := by
  unfold greatest
  have : ∀ (l : List Cl) (m : Nat), m ≤ l.foldl (fun m c => max m c.gen) m ∧ ∀ c ∈ l, c.gen ≤ l.foldl (fun m c => max m c.gen) m := by
    intro l
    induction l with
    | nil => intro m; exact ⟨Nat.le_refl _, fun c hc => by cases hc⟩
    | cons x r ih =>
      intro m
      obtain ⟨h1, h2⟩ := ih (max m x.gen)
      simp only [List.foldl_cons]
      refine ⟨by omega, fun c hc => ?_⟩
      rw [List.mem_cons] at hc
      rcases hc with rfl | hc
      · omega
      · exact h2 c hc
  have h := this l (max a b)
  exact ⟨by have := h.1; omega, by have := h.1; omega, h.2⟩
theorem greatest_le (l : List Cl) (a b M : Nat) (ha : a ≤ M) (hb : b ≤ M) (hl : ∀ c ∈ l, c.gen ≤ M) : greatest l a b ≤ M := by
  unfold greatest
  have : ∀ (l : List Cl) (m : Nat), m ≤ M → (∀ c ∈ l, c.gen ≤ M) → l.foldl (fun m c => max m c.gen) m ≤ M := by
    intro l
    induction l with
    | nil => intro m hm _; exact hm
    | cons x r ih =>
      intro m hm h
      have := h x (List.mem_cons_self ..)
      exact ih _ (by show max m x.gen ≤ M; omega) (fun c hc => h c (List.mem_cons_of_mem _ hc))
  exact this l _ (by omega) hl

/-- All heads and cells of a disk are of generations up to one. -/
def UpTo (d : Dk) (g : Nat) : Prop := (rdHead (d.sec 0)).1 ≤ g ∧ (rdHead (d.sec 1)).1 ≤ g ∧ ∀ i, 2 ≤ i → i < 2 + 2 * hsize d.lasts.length → (rdCell (d.sec i)).gen ≤ g
theorem upTo_find (d : Dk) : UpTo d (findJ d).1.gen := by
  have hg : (findJ d).1.gen = greatest (d.cellsFrom 2 (2 * hsize d.lasts.length)) (rdHead (d.sec 0)).1 (rdHead (d.sec 1)).1 := by
    unfold findJ
    simp only
    split
    · rfl
    · split <;> rfl
  have h := greatest_ge (d.cellsFrom 2 (2 * hsize d.lasts.length)) (rdHead (d.sec 0)).1 (rdHead (d.sec 1)).1
  rw [hg]
  refine ⟨h.1, h.2.1, fun i h2 hi => h.2.2 _ ?_⟩
  unfold Dk.cellsFrom
  rw [List.mem_map]
  exact ⟨i - 2, List.mem_range.2 (by omega), by rw [show 2 + (i - 2) = i by omega]⟩

theorem mem_cellsB (gen : Nat) : ∀ (n : Nat) (bs : List (List UInt8)) (c : Cl), c ∈ cellsB gen n bs → ∃ b ∈ bs, ∃ m i, m < n + bs.length ∧ i < cellsN b.length ∧ c = cellAt gen m b i
  | _, [], c, h => by cases h
  | n, b :: r, c, h => by
    unfold cellsB at h
    rw [List.mem_append, List.mem_map] at h
    rcases h with ⟨i, hi, rfl⟩ | h
    · exact ⟨b, List.mem_cons_self .., n, i, by simp, List.mem_range.1 hi, rfl⟩
    · obtain ⟨b', hb, m, i, h1, h2, h3⟩ := mem_cellsB gen (n + 1) r c h
      exact ⟨b', List.mem_cons_of_mem _ hb, m, i, by simp; omega, h2, h3⟩

theorem lay_calm {d : Dk} (hc : d.Calm) (h4 : 4 ≤ d.lasts.length) {j : Jn} (hh : j.half ≤ 1) (hk : j.head ≤ 1) {bs : List (List UInt8)} (hb : ∀ b ∈ bs, b.length ≤ 1048576) :
    ((layJ d j bs).2.2 = 0 ↔ j.gen + 1 ≤ 4294967295 ∧ needs bs ≤ hsize d.lasts.length) ∧ ((layJ d j bs).2.2 ≠ 0 → (layJ d j bs).2.2 = 11) ∧
    ((layJ d j bs).2.2 = 0 → (layJ d j bs).1.Calm ∧ (layJ d j bs).1.lasts.length = d.lasts.length ∧ (layJ d j bs).2.1 = ⟨j.gen + 1, 1 - j.half, 1 - j.head, bs.length, needs bs, false⟩ ∧
      ∀ i, i < d.lasts.length → (layJ d j bs).1.sec i = if i = 1 - j.head then hdSector (j.gen + 1) (1 - j.half) else if 2 + (1 - j.half) * hsize d.lasts.length ≤ i ∧ i < 2 + (1 - j.half) * hsize d.lasts.length + needs bs then ((cellsB (j.gen + 1) 0 bs).getD (i - (2 + (1 - j.half) * hsize d.lasts.length)) Cl.zero).sector else d.sec i) := by
  obtain ⟨z, hz⟩ : ∃ z, hsize d.lasts.length = z := ⟨_, rfl⟩
  have hz2 : 2 + 2 * z ≤ d.lasts.length := by rw [← hz]; unfold hsize; omega
  have hH : (1 - j.half) * z + z ≤ 2 * z := by
    have : 1 - j.half = 0 ∨ 1 - j.half = 1 := by omega
    rcases this with e | e <;> rw [e] <;> omega
  have hleft : j.next.left d = z := by
    show min (2 + (1 - j.half) * hsize d.lasts.length + hsize d.lasts.length) d.room - (2 + (1 - j.half) * hsize d.lasts.length) - 0 = z
    rw [hz, hc.room]
    omega
  have hroom : 2 ≤ d.room := by rw [hc.room]; omega
  have hholds : j.next.holds d bs = decide (needs bs ≤ z) := by
    unfold Jn.holds
    rw [hleft, decide_eq_true hroom]; rfl
  rw [hz]
  by_cases hcond : j.gen + 1 ≤ 4294967295 ∧ needs bs ≤ z
  · have hcc : j.next.gen ≤ 4294967295 ∧ j.next.holds d bs = true := ⟨hcond.1, by rw [hholds]; exact decide_eq_true hcond.2⟩
    have hput := Dk.Calm.putsJ bs d j.next hc (by
      show 2 + (1 - j.half) * hsize d.lasts.length + 0 + needs bs ≤ _
      rw [hz]; omega)
    have hkeep := putsJ_keeps bs d j.next
    have hpk := putsJ_ok bs d j.next hput.1
    have hlen := hkeep.2.2.2.2
    have hfl := hput.2.1.flush
    have hhl : (1 - j.head : Nat) < (putsJ d j.next bs).1.flush.1.lasts.length := by rw [hfl.2.2.1, hlen]; omega
    have hwr := hfl.2.1.write (a := 1 - j.head) (s := hdSector (j.gen + 1) (1 - j.half)) hhl (hdSector_length _ _)
    have hfl2 := hwr.2.1.flush
    have hjh : (putsJ d j.next bs).2.1.head = 1 - j.head := hkeep.2.2.1
    have hjg : (putsJ d j.next bs).2.1.gen = j.gen + 1 := hkeep.1
    have hjf : (putsJ d j.next bs).2.1.half = 1 - j.half := hkeep.2.1
    have hend : endJ (putsJ d j.next bs).1 (putsJ d j.next bs).2.1 = (((putsJ d j.next bs).1.flush.1.write ((1 - j.head : Nat) : Int) (hdSector (j.gen + 1) (1 - j.half))).1.flush) := by
      unfold endJ
      rw [if_pos hfl.1, hjh, hjg, hjf, if_pos hwr.1]
    have hfill : fillJ d j.next bs = ((endJ (putsJ d j.next bs).1 (putsJ d j.next bs).2.1).1, (putsJ d j.next bs).2.1, (endJ (putsJ d j.next bs).1 (putsJ d j.next bs).2.1).2) := by
      unfold fillJ
      rw [if_pos hput.1]
    have hlay : layJ d j bs = ((endJ (putsJ d j.next bs).1 (putsJ d j.next bs).2.1).1, (putsJ d j.next bs).2.1, 0) := by
      unfold layJ
      rw [if_pos hcc, hfill, hend]
      simp only
      rw [hfl2.1]
      rfl
    have hjn : (putsJ d j.next bs).2.1 = ⟨j.gen + 1, 1 - j.half, 1 - j.head, bs.length, needs bs, false⟩ := by
      have e1 := hpk.1
      have e2 := hpk.2
      have e3 := hkeep.2.2.2.1
      have e1' : (putsJ d j.next bs).2.1.count = bs.length := by rw [e1]; show 0 + _ = _; omega
      have e2' : (putsJ d j.next bs).2.1.used = needs bs := by rw [e2]; show 0 + _ = _; omega
      have e3' : (putsJ d j.next bs).2.1.closed = false := e3
      generalize (putsJ d j.next bs).2.1 = q at *
      obtain ⟨a, b, c, e, f, g⟩ := q
      simp only at *
      subst hjh hjg hjf e1' e2' e3'
      rfl
    rw [hlay, hend]
    refine ⟨⟨fun _ => hcond, fun _ => rfl⟩, fun h => absurd rfl h, fun _ => ⟨hfl2.2.1, by show _ = _; rw [hfl2.2.2.1, hwr.2.2.1, hfl.2.2.1, hlen], hjn, fun i hi => ?_⟩⟩
    show ((putsJ d j.next bs).1.flush.1.write ((1 - j.head : Nat) : Int) (hdSector (j.gen + 1) (1 - j.half))).1.flush.1.sec i = _
    rw [hfl2.2.2.2.1 i (by rw [hwr.2.2.1, hfl.2.2.1, hlen]; exact hi), hwr.2.2.2 i (by rw [hfl.2.2.1, hlen]; exact hi)]
    by_cases e : i = 1 - j.head
    · rw [if_pos e, if_pos e]
    · rw [if_neg e, if_neg e, hfl.2.2.2.1 i (by rw [hlen]; exact hi), hput.2.2 i hi]
      show (if 2 + (1 - j.half) * hsize d.lasts.length + 0 ≤ i ∧ i < 2 + (1 - j.half) * hsize d.lasts.length + 0 + needs bs then ((cellsB (j.gen + 1) 0 bs).getD (i - (2 + (1 - j.half) * hsize d.lasts.length + 0)) Cl.zero).sector else d.sec i) = _
      rw [hz, Nat.add_zero]
  · have hlay : layJ d j bs = (d, j, 11) := by
      unfold layJ
      rw [if_neg]
      rintro ⟨h1, h2⟩
      rw [hholds, decide_eq_true_eq] at h2
      exact hcond ⟨h1, h2⟩
    rw [hlay]
    exact ⟨⟨fun h => absurd h (show ¬ ((11 : Int) = 0) by decide), fun h => absurd h hcond⟩, fun _ => rfl, fun h => absurd h (show ¬ ((11 : Int) = 0) by decide)⟩
/-- What was laid is found. -/
theorem find_laid {d : Dk} (hc : d.Calm) (h4 : 4 ≤ d.lasts.length) {j : Jn} (hh : j.half ≤ 1) (hk : j.head ≤ 1) {bs : List (List UInt8)} (hb : ∀ b ∈ bs, b.length ≤ 1048576) (hn : bs.length ≤ 8192) (hU : UpTo d j.gen) (h0 : (layJ d j bs).2.2 = 0) :
    findJ (layJ d j bs).1 = (⟨j.gen + 1, 1 - j.half, 1 - j.head, 0, 0, false⟩, bs) := by
  obtain ⟨hiff, -, hres⟩ := lay_calm hc h4 hh hk hb
  obtain ⟨hg, hnz⟩ := hiff.1 h0
  obtain ⟨-, hlen, -, hsec⟩ := hres h0
  obtain ⟨z, hz⟩ : ∃ z, hsize d.lasts.length = z := ⟨_, rfl⟩
  have hz2 : 2 + 2 * z ≤ d.lasts.length := by rw [← hz]; unfold hsize; omega
  obtain ⟨H, hHe⟩ : ∃ H, 1 - j.half = H := ⟨_, rfl⟩
  obtain ⟨K, hKe⟩ : ∃ K, 1 - j.head = K := ⟨_, rfl⟩
  obtain ⟨G, hGe⟩ : ∃ G, j.gen + 1 = G := ⟨_, rfl⟩
  have hH1 : H ≤ 1 := by omega
  have hK1 : K ≤ 1 := by omega
  have hHz : H * z + z ≤ 2 * z := by
    have : H = 0 ∨ H = 1 := by omega
    rcases this with e | e <;> rw [e] <;> omega
  unfold UpTo at hU
  rw [hz] at hU hsec hnz
  rw [hHe, hKe, hGe] at hsec
  generalize (layJ d j bs).1 = e at *
  have hsecK : rdHead (e.sec K) = (G, H) := by
    rw [hsec K (by omega), if_pos rfl]
    exact rdHead_sector (by omega) (by omega) hH1
  have hsecO : ∀ i, i ≤ 1 → i ≠ K → (rdHead (e.sec i)).1 < G := fun i hi hne => by
    rw [hsec i (by omega), if_neg hne, if_neg (by omega)]
    have : i = 0 ∨ i = 1 := by omega
    rcases this with rfl | rfl
    · have := hU.1; omega
    · have := hU.2.1; omega
  -- the cells of the new half
  have hcell : ∀ i, i < z → rdCell (e.sec (2 + H * z + i)) = if i < needs bs then (cellsB G 0 bs).getD i Cl.zero else rdCell (d.sec (2 + H * z + i)) := fun i hi => by
    rw [hsec (2 + H * z + i) (by omega), if_neg (by omega)]
    by_cases hin : i < needs bs
    · rw [if_pos (by omega), if_pos hin, show 2 + H * z + i - (2 + H * z) = i by omega]
      have hl : i < (cellsB G 0 bs).length := by rw [cellsB_length]; exact hin
      have hgd : (cellsB G 0 bs).getD i Cl.zero = (cellsB G 0 bs)[i] := by rw [List.getD_eq_getElem?_getD, List.getElem?_eq_getElem hl]; rfl
      rw [hgd]
      obtain ⟨b, hbm, m, k, hm, hk2, he⟩ := mem_cellsB G 0 bs _ (List.getElem_mem hl)
      rw [he]
      exact rdCell_sector (cellAt_fits G m b k (by omega) (by omega) (hb b hbm) hk2) (cellAt_sound G m b k (by omega) hk2)
    · rw [if_neg (by omega), if_neg hin]
  have hold : ∀ i, 2 ≤ i → i < 2 + 2 * z → (rdCell (e.sec i)).gen ≤ G := fun i h2 hi => by
    by_cases hin : 2 + H * z ≤ i ∧ i < 2 + H * z + z
    · have := hcell (i - (2 + H * z)) (by omega)
      rw [show 2 + H * z + (i - (2 + H * z)) = i by omega] at this
      rw [this]
      split
      · rename_i hx
        have hl : i - (2 + H * z) < (cellsB G 0 bs).length := by rw [cellsB_length]; exact hx
        rw [List.getD_eq_getElem?_getD, List.getElem?_eq_getElem hl, Option.getD_some]
        obtain ⟨b, hbm, m, k, hm, hk2, he⟩ := mem_cellsB G 0 bs _ (List.getElem_mem hl)
        rw [he]
        exact Nat.le_refl _
      · have := hU.2.2 i h2 hi
        omega
    · rw [hsec i (by omega), if_neg (by omega), if_neg (by omega)]
      have := hU.2.2 i h2 hi
      omega
  have hrow : e.cellsFrom (2 + H * z) z = cellsB G 0 bs ++ (d.cellsFrom (2 + H * z) z).drop (needs bs) := by
    apply List.ext_getElem
    · rw [List.length_append, cellsB_length, List.length_drop]
      simp only [Dk.cellsFrom, List.length_map, List.length_range]
      omega
    · intro i h1 h2
      have hi : i < z := by simpa [Dk.cellsFrom] using h1
      have hce := hcell i hi
      have hL : (e.cellsFrom (2 + H * z) z)[i] = rdCell (e.sec (2 + H * z + i)) := by simp [Dk.cellsFrom]
      rw [hL, hce]
      by_cases hin : i < needs bs
      · rw [if_pos hin, List.getElem_append_left (by rw [cellsB_length]; exact hin), List.getD_eq_getElem?_getD, List.getElem?_eq_getElem (by rw [cellsB_length]; exact hin), Option.getD_some]
      · rw [if_neg hin, List.getElem_append_right (by rw [cellsB_length]; omega), List.getElem_drop]
        simp only [Dk.cellsFrom, List.getElem_map, List.getElem_range, cellsB_length]
        congr 2
        omega
  have hrecs : records (e.cellsFrom (2 + H * z) z) G = bs := by
    unfold records
    rw [hrow]
    refine records_laid G bs 0 _ _ (Nat.le_refl _) (fun c hcm => .inl ?_)
    have hcm2 := List.mem_of_mem_drop hcm
    unfold Dk.cellsFrom at hcm2
    rw [List.mem_map] at hcm2
    obtain ⟨i, hi, rfl⟩ := hcm2
    rw [List.mem_range] at hi
    have := hU.2.2 (2 + H * z + i) (by omega) (by omega)
    omega
  have hlz : hsize e.lasts.length = z := by rw [hlen]; exact hz
  have hgr : greatest (e.cellsFrom 2 (2 * z)) (rdHead (e.sec 0)).1 (rdHead (e.sec 1)).1 = G := by
    have hle : greatest (e.cellsFrom 2 (2 * z)) (rdHead (e.sec 0)).1 (rdHead (e.sec 1)).1 ≤ G := by
      refine greatest_le _ _ _ _ ?_ ?_ (fun c hcm => ?_)
      · by_cases h : (0 : Nat) = K
        · rw [h, hsecK]; exact Nat.le_refl _
        · exact Nat.le_of_lt (hsecO 0 (by omega) h)
      · by_cases h : (1 : Nat) = K
        · rw [h, hsecK]; exact Nat.le_refl _
        · exact Nat.le_of_lt (hsecO 1 (by omega) h)
      · unfold Dk.cellsFrom at hcm
        rw [List.mem_map] at hcm
        obtain ⟨i, hi, rfl⟩ := hcm
        rw [List.mem_range] at hi
        exact hold (2 + i) (by omega) (by omega)
    have hge := greatest_ge (e.cellsFrom 2 (2 * z)) (rdHead (e.sec 0)).1 (rdHead (e.sec 1)).1
    have : K = 0 ∨ K = 1 := by omega
    rcases this with h | h
    · have h1 := hge.1
      rw [h] at hsecK
      rw [hsecK] at h1 hle ⊢
      simp only at h1 hle ⊢
      omega
    · have h1 := hge.2.1
      rw [h] at hsecK
      rw [hsecK] at h1 hle ⊢
      simp only at h1 hle ⊢
      omega
  unfold findJ
  simp only
  rw [hlz, hgr]
  have : K = 0 ∨ K = 1 := by omega
  rcases this with h | h
  · rw [h] at hsecK
    have h1 := hsecO 1 (by omega) (by omega)
    rw [hsecK]
    simp only
    rw [if_pos ⟨by omega, by omega⟩, hrecs, hGe, hHe, hKe, h]
  · rw [h] at hsecK
    have h1 := hsecO 0 (by omega) (by omega)
    rw [hsecK]
    simp only
    rw [if_neg (by omega), if_neg (by omega), hrecs, hGe, hHe, hKe, h]
end Go.Proofs.YtnioagojiipjlaaGreat.Mt

/-
  The records of a half need no more sectors than it has; a disk opened twice. Nothing of the program stands here.
-/
namespace Go.Proofs.YtnioagojiipjlaaGreat.Mt

/-- What a sector may read as. -/
def GoodC (c : Cl) : Prop := c.parts = 0 ∨ (c.sound = true ∧ c.body.length ≤ 110)
theorem rdCell_good (s : List UInt8) : GoodC (rdCell s) := by
  unfold rdCell
  split
  · rename_i h
    refine .inr ⟨h.2.2.2.1, ?_⟩
    show ((s.drop 18).take (gn s 17 1)).length ≤ 110
    rw [List.length_take]
    have := h.2.2.1
    omega
  · exact .inl rfl
theorem cellsFrom_good (d : Dk) (a n : Nat) : ∀ c ∈ d.cellsFrom a n, GoodC c := by
  intro c hc
  unfold Dk.cellsFrom at hc
  rw [List.mem_map] at hc
  obtain ⟨i, _, rfl⟩ := hc
  exact rdCell_good _
theorem sound_len {c : Cl} (h : c.sound = true) : c.part < c.parts ∧ (c.part + 1 < c.parts → c.body.length = 110) ∧ (¬ c.part + 1 < c.parts → 0 < c.body.length ∨ c.parts = 1) := by
  unfold Cl.sound at h
  split at h
  · cases h
  · rename_i h1
    split at h
    · rename_i h2
      rw [decide_eq_true_eq] at h
      exact ⟨by omega, fun _ => h, fun h3 => absurd h2 h3⟩
    · rename_i h2
      rw [Bool.or_eq_true, decide_eq_true_eq, decide_eq_true_eq] at h
      exact ⟨by omega, fun h3 => absurd h3 h2, fun _ => h⟩
theorem record_cells {l : List Cl} (hg : ∀ c ∈ l, GoodC c) {gen k : Nat} (h : (record l gen k).2 ≠ 0) : cellsN (record l gen k).1.length = (record l gen k).2 := by
  unfold record at h ⊢
  split at h
  · exact absurd rfl h
  · rename_i h1
    split at h
    · rename_i h2
      rw [if_neg h1, if_pos h2]
      simp only at h ⊢
      obtain ⟨P, hP⟩ : ∃ P, (l.getD 0 Cl.zero).parts = P := ⟨_, rfl⟩
      rw [hP] at h h1 h2 ⊢
      have hfit : ∀ i, i < P → ∃ hi : i < l.length, l[i].parts = P ∧ l[i].part = i ∧ l[i].sound = true ∧ l[i].body.length ≤ 110 := fun i hi => by
        have hil : i < l.length := by omega
        unfold recOk at h2
        rw [List.all_eq_true] at h2
        have h3 := h2 i (List.mem_range.2 hi)
        simp only [List.getD_eq_getElem?_getD, List.getElem?_eq_getElem hil, Option.getD_some, Bool.and_eq_true, decide_eq_true_eq] at h3
        refine ⟨hil, h3.1.2, h3.2, ?_⟩
        rcases hg _ (List.getElem_mem hil) with h4 | h4
        · omega
        · exact h4
      have hlen : ∀ m, m < P → (bodyOf l m).length = 110 * m := by
        intro m
        induction m with
        | zero => intro _; simp [bodyOf]
        | succ m ih =>
          intro hm
          obtain ⟨hi, e1, e2, e3, e4⟩ := hfit m (by omega)
          have hs := (sound_len e3).2.1 (by omega)
          rw [bodyOf_snoc l m hi, List.length_append, ih (by omega), hs]
          omega
      obtain ⟨q, rfl⟩ : ∃ q, P = q + 1 := ⟨P - 1, by omega⟩
      obtain ⟨hi, e1, e2, e3, e4⟩ := hfit q (by omega)
      have hs := (sound_len e3).2.2 (by omega)
      have hq := hlen q (by omega)
      rw [bodyOf_snoc l q hi, List.length_append, hq]
      unfold cellsN
      rcases hs with hs | hs <;> omega
    · exact absurd rfl h
theorem recordsF_needs : ∀ (f : Nat) (l : List Cl) (gen k : Nat), (∀ c ∈ l, GoodC c) → needs (recordsF f l gen k) ≤ l.length
  | 0, _, _, _, _ => Nat.zero_le _
  | f + 1, l, gen, k, h => by
    unfold recordsF
    split
    · exact Nat.zero_le _
    · rename_i hx
      have hne : (record l gen k).2 ≠ 0 := fun e => hx (.inr e)
      have ih := recordsF_needs f (l.drop (record l gen k).2) gen (k + 1) (fun c hc => h c (List.mem_of_mem_drop hc))
      rw [List.length_drop] at ih
      have hc := record_cells h hne
      have hle := record_le (l := l) (gen := gen) (k := k)
      show cellsN (record l gen k).1.length + needs _ ≤ _
      rw [hc]
      omega
theorem find_needs (d : Dk) : needs (findJ d).2 ≤ hsize d.lasts.length := by
  have H : ∀ a gen, needs (records (d.cellsFrom a (hsize d.lasts.length)) gen) ≤ hsize d.lasts.length := fun a gen => by
    have := recordsF_needs (d.cellsFrom a (hsize d.lasts.length)).length (d.cellsFrom a (hsize d.lasts.length)) gen 0 (cellsFrom_good d a _)
    have hl : (d.cellsFrom a (hsize d.lasts.length)).length = hsize d.lasts.length := by simp [Dk.cellsFrom]
    unfold records
    omega
  unfold findJ
  simp only
  split
  · exact H _ _
  · split
    · exact Nat.zero_le _
    · exact H _ _
/-- Opened, and opened again. -/
theorem twice {d : Dk} (hc : d.Calm) (h4 : 4 ≤ d.lasts.length) :
    ((openJ d).2.2 = 0 ∨ (openJ d).2.2 = 11) ∧ ((openJ d).2.2 = 0 → (openJ d).1.Calm ∧ (openJ d).1.lasts.length = d.lasts.length ∧ (openJ d).2.1.count = (findJ d).2.length ∧ (findJ (openJ d).1).2 = (findJ d).2 ∧
      (((openJ (openJ d).1).2.2 = 0 ∧ (openJ (openJ d).1).2.1.gen = (openJ d).2.1.gen + 1) ∨ ((openJ (openJ d).1).2.2 = 11 ∧ (openJ d).2.1.gen = 4294967295))) := by
  have hok := findJ_ok d
  have hrc := findJ_recs d hc.ok.most
  obtain ⟨hiff, hbad, hres⟩ := lay_calm hc h4 hok.1 hok.2.1 hrc.1
  have hnd := find_needs d
  refine ⟨?_, fun h0 => ?_⟩
  · by_cases h : (layJ d (findJ d).1 (findJ d).2).2.2 = 0
    · exact .inl h
    · exact .inr (hbad h)
  · have h0' : (layJ d (findJ d).1 (findJ d).2).2.2 = 0 := h0
    obtain ⟨hc1, hl1, hj1, -⟩ := hres h0'
    have hf1 := find_laid hc h4 hok.1 hok.2.1 hrc.1 hrc.2 (upTo_find d) h0'
    have hgm := (hiff.1 h0').1
    have hO1 : (openJ d).1 = (layJ d (findJ d).1 (findJ d).2).1 := rfl
    have hO2 : (openJ d).2.1 = (layJ d (findJ d).1 (findJ d).2).2.1 := rfl
    rw [hO1, hO2, hj1]
    refine ⟨hc1, hl1, rfl, by rw [hf1], ?_⟩
    generalize (layJ d (findJ d).1 (findJ d).2).1 = e at *
    obtain ⟨hiff2, hbad2, hres2⟩ := lay_calm hc1 (by omega) (j := ⟨(findJ d).1.gen + 1, 1 - (findJ d).1.half, 1 - (findJ d).1.head, 0, 0, false⟩) (by show 1 - (findJ d).1.half ≤ 1; omega) (by show 1 - (findJ d).1.head ≤ 1; omega) hrc.1
    have hO : openJ e = layJ e ⟨(findJ d).1.gen + 1, 1 - (findJ d).1.half, 1 - (findJ d).1.head, 0, 0, false⟩ (findJ d).2 := by unfold openJ; rw [hf1]
    rw [hO]
    by_cases h2 : (findJ d).1.gen + 1 + 1 ≤ 4294967295
    · left
      have h3 := hiff2.2 ⟨h2, by rw [hl1]; exact hnd⟩
      exact ⟨h3, by rw [(hres2 h3).2.2.1]⟩
    · right
      have h3 : ¬ (layJ e ⟨(findJ d).1.gen + 1, 1 - (findJ d).1.half, 1 - (findJ d).1.head, 0, 0, false⟩ (findJ d).2).2.2 = 0 := fun h => h2 (hiff2.1 h).1
      exact ⟨hbad2 h3, by show (findJ d).1.gen + 1 = 4294967295; omega⟩
/-- A new disk on which anything lay is calm. -/
theorem calmT_new (n : Nat) (h : n ≤ 8192) : (Dk.new n).Calm := ⟨Dk.ok_new n h, rfl, rfl, by simp [Dk.new]⟩
theorem calmT_lay {d : Dk} (h : d.Calm) (s : List UInt8) : (d.lay s).Calm := ⟨h.ok.lay s, h.off, h.cut, by show d.room = (layL d.lasts.length s).length; rw [layL_length]; exact h.room⟩
theorem lay_len (d : Dk) (s : List UInt8) : (d.lay s).lasts.length = d.lasts.length := layL_length _ _
end Go.Proofs.YtnioagojiipjlaaGreat.Mt

/-
  The example: a record that lasts.
-/
namespace Go.Proofs.YtnioagojiipjlaaGreat
open Go.RowKit
set_option maxRecDepth 100000 in
set_option maxHeartbeats 1000000 in
theorem awake6_any (w : World) : Calls Tryz.prog 8 #[] w fun e w' => e = .returned (.bool true) ∧ Below w.heap.size w w' := by
  have HNEW : Hid (Calls Tryz.prog 6 #[.int .i64 6] w fun e w' => e = .returned (.pointer (some ⟨w.heap.size + 2, 0, none⟩)) ∧ IsDisk w' (w.heap.size + 2) w.heap.size (w.heap.size + 1) Mt.aw0 ∧ Below w.heap.size w w') := Lib.hid (new_any 6 w)
  have HND := Lib.hid (fun u => need_yes 111 u (by omega))
  go_enter Tryz.func8, Tryz.ntmps8
  go_wp2_with fail
  refine (HNEW.out).mono ?_
  rintro e w1 ⟨rfl, hd, hb⟩
  generalize hB : w.heap.size + 2 = B at *
  generalize hbm : w.heap.size + 1 = bm at *
  have HBN := Lib.hid (And.intro hB hbm)
  have HD1 := Lib.hid hd
  have HB1 := Lib.hid hb
  clear hB hbm hd hb HNEW
  have HOP := Lib.hid (open_on HD1.out (by decide +kernel) (by decide +kernel))
  go_wp2_with fail
  refine (HOP.out).mono ?_
  rintro e w2 ⟨h1, -, ho⟩
  obtain ⟨J, x, j', hJ, rfl, hx, hj, hjl⟩ := h1 Mt.aw1_ok
  obtain rfl := hjl
  have HJ := Lib.hid hj
  have HJL := Lib.hid (show w.heap.size ≤ J by have := HB1.out.size; omega)
  have hbel : Below w.heap.size w w2 := HB1.out.trans (ho.toBelow (by intro k hk; simp at hk; have := HBN.out; omega) HB1.out.size)
  have HB2 := Lib.hid hbel
  rw [Mt.aw0_none] at hx
  obtain ⟨a0, c0, rfl, -, -⟩ := hx
  have HAP := Lib.hid (append_any6 hj [97] (by have := Mt.aw1_in.1; show Mt.aw1.2.1.gen < _; omega) (by have := Mt.aw1_in.2; show Mt.aw1.2.1.count ≤ Mt.aw1.2.1.used; omega) (by simp))
  clear h1 ho hj hbel HOP hJ
  go_wp2_with fail
  refine (HAP.out).mono ?_
  rintro e w3 ⟨rfl, hj, ho⟩
  rw [show (Mt.appendJ (Mt.openJ Mt.aw0).1 (Mt.openJ Mt.aw0).2.1 [97]).2.2 = 0 from Mt.aw2_ok]
  have HJ3 := Lib.hid hj
  have HB3 := Lib.hid (HB2.out.trans (ho.toBelow (by intro k hk; simp at hk; have := HBN.out; have := HJL.out; omega) HB2.out.size))
  have HGE := Lib.hid (gen_any hj.jn hj.gen)
  have HLE := Lib.hid (left_any hj)
  rw [show (Mt.appendJ (Mt.openJ Mt.aw0).1 (Mt.openJ Mt.aw0).2.1 [97]).2.1.gen = 1 from Mt.aw2_in.1] at HGE
  rw [show (Mt.appendJ (Mt.openJ Mt.aw0).1 (Mt.openJ Mt.aw0).2.1 [97]).2.1.left (Mt.appendJ (Mt.openJ Mt.aw0).1 (Mt.openJ Mt.aw0).2.1 [97]).1 = 1 from Mt.aw2_in.2] at HLE
  clear hj ho HAP
  go_wp2_with fail
  refine (HGE.out).mono ?_
  rintro e w4 ⟨rfl, rfl⟩
  go_wp2_with fail
  refine (HLE.out).mono ?_
  rintro e w4 ⟨rfl, hb⟩
  have hj4 := HJ3.out.below hb
  have HB4 := Lib.hid (HB3.out.trans (hb.mono HB3.out.size))
  have HCR := Lib.hid (crash_any hj4.dk 0 (-1) 0 (by omega) (by omega) (by omega))
  clear hb hj4
  go_wp2_with fail
  refine (HCR.out).mono ?_
  rintro e w5 ⟨rfl, hd, ho⟩
  have HB5 := Lib.hid (HB4.out.trans (ho.toBelow (by intro k hk; simp at hk; have := HBN.out; omega) HB4.out.size))
  have HOP := Lib.hid (open_on hd Mt.aw3_in.1 Mt.aw3_in.2)
  clear hd ho HCR
  go_wp2_with fail
  refine (HOP.out).mono ?_
  rintro e w6 ⟨h1, -, ho⟩
  obtain ⟨J2, x2, -, -, rfl, hx2, -, -⟩ := h1 Mt.aw3_ok
  have HB6 := Lib.hid (HB5.out.trans (ho.toBelow (by intro k hk; simp at hk; have := HBN.out; omega) HB5.out.size))
  have hx3 : IsTs w6 x2 [[97]] := by rw [← Mt.aw3_recs]; exact hx2
  obtain ⟨a2, c2, rfl, HX2⟩ := hx3.open
  obtain ⟨b3, o3, rfl, -, hcell⟩ := HX2.out 0 (by decide)
  have hcell' : w6.cell? ⟨b3, o3, none⟩ = some (.string ⟨#[97]⟩) := hcell
  clear h1 ho HOP hx2 hx3 HX2 hcell
  go_wp2_with fail
  refine (HND.out _).mono ?_
  rintro e w7 ⟨rfl, rfl⟩
  have hc2 : ((Mt.cellsN 111 : Nat) : Int) = 2 := by decide
  rw [hc2]
  go_wp2_with fail
  go_ret
  exact ⟨rfl, HB6.out⟩
end Go.Proofs.YtnioagojiipjlaaGreat

/-
  What Open leaves behind, in full.
-/
namespace Go.Proofs.YtnioagojiipjlaaGreat
open Go.RowKit
theorem LaidJ.eq {bs : List (List UInt8)} {j' c : Mt.Jn} (h : LaidJ bs j' c) : j' = c := by
  exact h
end Go.Proofs.YtnioagojiipjlaaGreat
