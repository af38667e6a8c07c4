/-
  What filt.Parse comes to.
-/
import Derived.Test.YtnlbhmjgeedgpaaDoorFtK
set_option linter.unusedVariables false
set_option linter.unusedSimpArgs false
namespace Go.Proofs.YtnlbhmjgeedgpaaDoor
open Go.RowKit

def Mt.wholeF : Mt.PR → Except Nat Mt.Fl
  | .error e => .error e
  | .ok (f, _, x) => if x = [] then .ok f else .error 4
theorem Mt.parseF_eq {l : List UInt8} (h : l.length ≤ 4096) : Mt.parseF l = Mt.wholeF (Mt.filtP 64 0 l) := by
  unfold Mt.parseF Mt.wholeF
  rw [if_neg (by omega)]
  cases Mt.filtP 64 0 l <;> rfl
/-- What Parse answers. -/
def ParsP (w : World) (R : Except Nat Mt.Fl) (e : Ending) (w' : World) : Prop := Below w.heap.size w w' ∧ match R with
  | .error k => e = .returned (.tuple #[zeroF, .int .i64 (k : Int)]) ∧ k ≠ 0
  | .ok f => ∃ pa pc a c, e = .returned (.tuple #[flV f pa pc a c, .int .i64 0]) ∧ IsFl w' (fun b => w.heap.size ≤ b) 64 (flV f pa pc a c) f
theorem parsP_bad {w w' : World} {R : Except Nat Mt.Fl} {k : Nat} (hR : R = .error k) (hk : k ≠ 0) (hb : Below w.heap.size w w') : ParsP w R (.returned (.tuple #[zeroF, .int .i64 (k : Int)])) w' := by
  subst hR; exact ⟨hb, rfl, hk⟩
theorem parsP_good {w w' : World} {R : Except Nat Mt.Fl} {f : Mt.Fl} {pa : Option Addr} {pc : Nat} {a : Option Addr} {c : Nat} (hR : R = .ok f) (hb : Below w.heap.size w w') (hf : IsFl w' (fun b => w.heap.size ≤ b) 64 (flV f pa pc a c) f) :
    ParsP w R (.returned (.tuple #[flV f pa pc a c, .int .i64 0])) w' := by
  subst hR; exact ⟨hb, pa, pc, a, c, rfl, hf⟩
set_option maxRecDepth 100000 in
set_option maxHeartbeats 2000000 in
theorem Parse10_any (s : ByteArray) (w : World) : Calls Tryd.prog 9 #[.string s] w (ParsP w (Mt.parseF s.data.toList)) := by
  obtain ⟨R, hR⟩ : ∃ R, Mt.parseF s.data.toList = R := ⟨_, rfl⟩
  rw [hR]
  have hsz : s.data.toList.length = s.size := rfl
  obtain ⟨w1, hw1⟩ : ∃ u, w.alloc (.cells #[.int .i64 0, .string ⟨#[]⟩, .string ⟨#[]⟩, .slice none 0 0, .slice none 0 0] 25) = u := ⟨_, rfl⟩
  have hg1 : w1.heap[w.heap.size]? = some (.cells #[.int .i64 0, .string ⟨#[]⟩, .string ⟨#[]⟩, .slice none 0 0, .slice none 0 0] 25) := by rw [← hw1]; exact heap_alloc_new w _
  have hb1 : Below w.heap.size w w1 := by rw [← hw1]; exact (Below.refl _ w).alloc (Nat.le_refl _) _
  have HG1 := Lib.hid hg1
  have HB1 := Lib.hid hb1
  clear hg1 hb1
  by_cases hbig : (4096 : Int) < (s.size : Int)
  · have HN : Hid (R = .error 5) := Lib.hid (by rw [← hR]; unfold Mt.parseF; rw [if_pos (by omega)])
    clear hR hsz
    go_enter Tryd.func9, Tryd.ntmps9
    go_upto_region 1 with fail
    clear hw1
    obtain ⟨⟨x0, x1, x2, x3, x4⟩, f0, f1, f2, f3, f4⟩ := box5F HG1.out
    go_wp2_with fail
    refine ret5 rfl w.heap.size _ _ _ _ _ _ rfl rfl rfl Tryd.underlying25 Tryd.szFilter HG1.out ?_
    intro w5 ho _
    exact parsP_bad HN.out (by decide) (HB1.out.trans (ho.toBelow (by simp) HB1.out.size))
  · obtain ⟨P, hP⟩ : ∃ P, Mt.filtP 64 0 s.data.toList = P := ⟨_, rfl⟩
    have HRP : Hid (R = Mt.wholeF P) := Lib.hid (by rw [← hR, ← hP]; exact Mt.parseF_eq (by omega))
    have HF : Hid (∀ (u : World) (B : Nat), IsRd u B s.data.toList 0 → Calls Tryd.prog 20 #[.pointer (some ⟨B, 0, none⟩), .int .i64 1] u (FiltP u B 64 P)) := Lib.hid (fun u B hB => by
      have := filter10_any 64 1 rfl s.data.toList 0 u B (by omega) (by omega) hB
      rw [hP] at this; exact this)
    have hstr : Mt.str s.data.toList = s := rfl
    have HSTR := Lib.hid hstr
    clear hR hP hstr hsz
    go_enter Tryd.func9, Tryd.ntmps9
    go_upto_region 1 with fail
    clear hw1
    go_upto_region 4 with fail
    have hb2 := (Below.refl w1.heap.size w1).alloc (Nat.le_refl _) (.cells #[.string s, .int .i64 0] 46)
    have h2 := heap_alloc_new w1 (.cells #[.string s, .int .i64 0] 46)
    generalize w1.alloc (.cells #[.string s, .int .i64 0] 46) = w2 at *
    have HB2 := Lib.hid (HB1.out.trans (hb2.mono HB1.out.size))
    have HG2 := Lib.hid ((hb2.block _ (lt_of_block HG1.out)).trans HG1.out)
    have HR2 : Hid (IsRd w2 w1.heap.size s.data.toList 0) := Lib.hid h2
    have HLT : Hid (w.heap.size < w1.heap.size) := Lib.hid (lt_of_block HG1.out)
    clear hb2 h2
    have HC := Lib.hid (HF.out w2 w1.heap.size HR2.out)
    generalize w1.heap.size = B at *
    go_wp2_with fail
    refine (HC.out).mono ?_
    rintro e w3 hFP
    cases P with
    | error e0 =>
      obtain ⟨ho3, rfl, hke⟩ := hFP
      have HN : Hid (R = .error e0) := HRP
      have hne : (((e0 : Nat) : Int) != 0) = true := by simp; exact hke
      have HKE := Lib.hid hke
      have HB3 := Lib.hid (HB2.out.trans (ho3.toBelow (D := w.heap.size) (by simp; have := HLT.out; omega) HB2.out.size))
      have HG3 := Lib.hid ((ho3.block _ (lt_of_block HG2.out) (by simp; have := HLT.out; omega)).trans HG2.out)
      simp only [zeroF]
      clear ho3 hke
      go_upto_region 5 with fail
      have hb6 := (Below.refl w3.heap.size w3).alloc (Nat.le_refl _) (.cells #[.int .i64 0, .string ⟨#[]⟩, .string ⟨#[]⟩, .slice none 0 0, .slice none 0 0] 25)
      generalize w3.alloc (.cells #[.int .i64 0, .string ⟨#[]⟩, .string ⟨#[]⟩, .slice none 0 0, .slice none 0 0] 25) = w6 at *
      have HB6 := Lib.hid (HB3.out.trans (hb6.mono HB3.out.size))
      have HG6 := Lib.hid ((hb6.block _ (lt_of_block HG3.out)).trans HG3.out)
      clear hb6
      obtain ⟨⟨x0, x1, x2, x3, x4⟩, f0, f1, f2, f3, f4⟩ := box5F HG6.out
      go_wp2_with fail
      refine ret5 rfl w.heap.size _ _ _ _ _ _ rfl rfl rfl Tryd.underlying25 Tryd.szFilter HG6.out ?_
      intro w7 ho _
      exact parsP_bad HN.out HKE.out (HB6.out.trans (ho.toBelow (by simp) HB6.out.size))
    | ok p =>
      obtain ⟨f, m, x⟩ := p
      obtain ⟨ho3, pa, pc, a4, c4, rfl, hfl, hB3⟩ := hFP
      have HRX : Hid (R = if x = [] then .ok f else .error 4) := HRP
      have HB3 := Lib.hid (HB2.out.trans (ho3.toBelow (D := w.heap.size) (by simp; have := HLT.out; omega) HB2.out.size))
      have HG3 := Lib.hid ((ho3.block _ (lt_of_block HG2.out) (by simp; have := HLT.out; omega)).trans HG2.out)
      have HFL : Hid (IsFl w3 (fun b => w.heap.size < b) 64 (flV f pa pc a4 c4) f) := Lib.hid (hfl.mono (Nat.le_refl _) (fun b hb _ => by have := lt_of_block HG2.out; omega))
      have HX3 := Lib.hid hB3
      simp only [flV]
      clear ho3 hfl hB3
      go_upto_region 5 with fail
      have hb6 := (Below.refl w3.heap.size w3).alloc (Nat.le_refl _) (.cells #[.int .i64 f.kind, .string (Mt.str f.attr), .string (Mt.str f.value), .slice pa f.pcs.length pc, .slice a4 f.kids.length c4] 25)
      have h6 := heap_alloc_new w3 (.cells #[.int .i64 f.kind, .string (Mt.str f.attr), .string (Mt.str f.value), .slice pa f.pcs.length pc, .slice a4 f.kids.length c4] 25)
      generalize w3.alloc (.cells #[.int .i64 f.kind, .string (Mt.str f.attr), .string (Mt.str f.value), .slice pa f.pcs.length pc, .slice a4 f.kids.length c4] 25) = w6 at *
      have HB6 := Lib.hid (HB3.out.trans (hb6.mono HB3.out.size))
      have HG6 := Lib.hid ((hb6.block _ (lt_of_block HG3.out)).trans HG3.out)
      have HX6 := Lib.hid ((hb6.block _ (lt_of_block HX3.out)).trans HX3.out)
      have HFL6 := Lib.hid (HFL.out.below hb6)
      have H6 := Lib.hid h6
      clear hb6 h6
      obtain ⟨⟨x0, x1, x2, x3, x4⟩, f0, f1, f2, f3, f4⟩ := box5F HG6.out
      obtain ⟨⟨y0, y1, y2, y3, y4⟩, -⟩ := box5F H6.out
      obtain ⟨⟨r0, r1⟩, -⟩ := box2F HX6.out
      by_cases hx : x = []
      · have HN : Hid (R = .ok f) := Lib.hid (by rw [HRX.out, if_pos hx])
        subst hx
        have hem2 : (Mt.str []) = ⟨#[]⟩ := rfl
        rw [hem2] at r0
        go_wp2_with fail
        refine ret5 rfl w.heap.size _ _ _ _ _ _ rfl rfl rfl Tryd.underlying25 Tryd.szFilter HG6.out ?_
        intro w7 ho _
        refine parsP_good (f := f) (pa := pa) (pc := pc) (a := a4) (c := c4) HN.out (HB6.out.trans (ho.toBelow (by simp) HB6.out.size)) ?_
        exact HFL6.out.keep (fun b hb _ => by omega) (fun b hb hl => ho.block b hl (by simp; omega)) (Nat.le_refl _)
      · have HN : Hid (R = .error 4) := Lib.hid (by rw [HRX.out, if_neg hx])
        have hem : (Mt.str x).toList.isEmpty = false := by
          rw [ByteArray.toList_eq, Mt.str_data]; simpa using hx
        clear hx
        go_wp2_with fail
        refine ret5 rfl w.heap.size _ _ _ _ _ _ rfl rfl rfl Tryd.underlying25 Tryd.szFilter HG6.out ?_
        intro w7 ho _
        exact parsP_bad HN.out (by decide) (HB6.out.trans (ho.toBelow (by simp) HB6.out.size))
end Go.Proofs.YtnlbhmjgeedgpaaDoor
