/-
  What filt.Check comes to; the chapter's examples.
-/
import Derived.Test.YtnlbhmjgeedgpaaDoorFtN
set_option linter.unusedVariables false
set_option linter.unusedSimpArgs false
namespace Go.Proofs.YtnlbhmjgeedgpaaDoor
open Go.RowKit

theorem Mt.ret_intF {a b : Int} (h : a = b) : Ending.returned (.int .i64 a) = .returned (.int .i64 b) := by rw [h]
set_option maxRecDepth 100000 in
set_option maxHeartbeats 1000000 in
theorem Check10_any (f : Mt.Fl) (v : Value) (w : World) (ok : Nat → Prop) (h : Nat) (hfl : IsFl w ok h v f) : Calls Tryd.prog 16 #[v] w fun e w' => e = .returned (.int .i64 (Mt.errE (Mt.chkF 64 0 f) : Int)) ∧ Below w.heap.size w w' := by
  obtain ⟨h', rfl, pa, pc, a, c, rfl, hok, hpc, hkids⟩ := hfl.open'
  have HFL := Lib.hid hfl
  obtain ⟨kind, hkd⟩ : ∃ k, f.kind = k := ⟨_, rfl⟩
  obtain ⟨kn, hkn⟩ : ∃ k, f.kids.length = k := ⟨_, rfl⟩
  have HV : Hid (flV f pa pc a c = .agg #[.int .i64 kind, .string (Mt.str f.attr), .string (Mt.str f.value), .slice pa f.pcs.length pc, .slice a kn c]) := Lib.hid (by unfold flV; rw [hkd, hkn])
  rw [HV.out]
  rw [HV.out] at HFL
  obtain ⟨w1, hw1⟩ : ∃ u, w.alloc (.cells #[.int .i64 kind, .string (Mt.str f.attr), .string (Mt.str f.value), .slice pa f.pcs.length pc, .slice a kn c] 25) = u := ⟨_, rfl⟩
  have hg1 : w1.heap[w.heap.size]? = some (.cells #[.int .i64 kind, .string (Mt.str f.attr), .string (Mt.str f.value), .slice pa f.pcs.length pc, .slice a kn c] 25) := by rw [← hw1]; exact heap_alloc_new w _
  have hb1 : Below w.heap.size w w1 := by rw [← hw1]; exact (Below.refl _ w).alloc (Nat.le_refl _) _
  have HG1 := Lib.hid hg1
  have HB1 := Lib.hid hb1
  obtain ⟨R, hR⟩ : ∃ R, Mt.errE (Mt.chkF 64 0 f) = R := ⟨_, rfl⟩
  have HR := Lib.hid hR
  rw [hR]
  clear hR hfl hok hpc hkids hkd hkn hg1 hb1
  go_enter Tryd.func16, Tryd.ntmps16
  go_upto_region 1 with fail
  clear hw1
  go_upto_region 2 with fail
  have hb2 := (Below.refl w1.heap.size w1).alloc (Nat.le_refl _) (.cells #[.int .i64 0] 60)
  have h2 := heap_alloc_new w1 (.cells #[.int .i64 0] 60)
  generalize w1.alloc (.cells #[.int .i64 0] 60) = w2 at *
  have HB2 := Lib.hid (HB1.out.trans (hb2.mono HB1.out.size))
  have HG2 := Lib.hid ((hb2.block _ (lt_of_block HG1.out)).trans HG1.out)
  have HC2 : Hid (IsCk w2 w1.heap.size 0) := Lib.hid h2
  have HLT : Hid (w.heap.size < w1.heap.size) := Lib.hid (lt_of_block HG1.out)
  clear hb2 h2
  obtain ⟨⟨x0, x1, x2, x3, x4⟩, -⟩ := box5F HG2.out
  have HFL2 : Hid (IsFl w2 (fun b => b ≠ w1.heap.size) (h' + 1) (.agg #[.int .i64 kind, .string (Mt.str f.attr), .string (Mt.str f.value), .slice pa f.pcs.length pc, .slice a kn c]) f) := Lib.hid (HFL.out.keep (fun b _ hl => by have := HLT.out; omega) (fun b _ hl => HB2.out.block b hl) (Nat.le_refl _))
  have HCH := Lib.hid (check10_any 64 1 rfl 0 f _ w2 _ (h' + 1) w1.heap.size HFL2.out (fun b hb => hb) (by omega) HC2.out)
  generalize w1.heap.size = C at *
  go_wp2_with fail
  refine (HCH.out).mono ?_
  rintro e w3 ⟨ho3, rfl, -⟩
  have HO3 := Lib.hid (HB2.out.trans (ho3.toBelow (D := w.heap.size) (by simp; have := HLT.out; omega) HB2.out.size))
  clear ho3
  go_wp2_with fail
  go_ret
  exact ⟨Mt.ret_intF (by rw [HR.out]), HO3.out⟩

/-! ### the examples -/
def Mt.ex1 : Mt.Fl := .mk 0 [] [] [] [.mk 4 [99, 110] [] [(0, [97]), (2, [98])] [], .mk 2 [] [] [] [.mk 7 [115, 110] [] [] []]]
def Mt.ex2 : Mt.Fl := .mk 3 [99, 110] [42] [] []
theorem Mt.ex1_eq : Mt.parseF [40, 38, 40, 99, 110, 61, 97, 42, 98, 41, 40, 33, 40, 115, 110, 61, 42, 41, 41, 41] = .ok Mt.ex1 := by kernel_rfl
theorem Mt.ex2_eq : Mt.parseF [40, 99, 110, 61, 92, 50, 97, 41] = .ok Mt.ex2 := by kernel_rfl
theorem Mt.ex3_eq : Mt.parseF [40, 99, 110, 62, 61, 42, 41] = .error 4 := by kernel_rfl
set_option maxRecDepth 100000 in
set_option maxHeartbeats 1000000 in
theorem awake10_any (w : World) : Calls Tryd.prog 11 #[] w fun e w' => e = .returned (.bool true) ∧ Below w.heap.size w w' := by
  have HP1 := Lib.hid (fun u => Parse10_any ⟨#[40, 38, 40, 99, 110, 61, 97, 42, 98, 41, 40, 33, 40, 115, 110, 61, 42, 41, 41, 41]⟩ u)
  have HP2 := Lib.hid (fun u => Parse10_any ⟨#[40, 99, 110, 61, 92, 50, 97, 41]⟩ u)
  have HP3 := Lib.hid (fun u => Parse10_any ⟨#[40, 99, 110, 62, 61, 42, 41]⟩ u)
  rw [show Mt.parseF (⟨#[40, 38, 40, 99, 110, 61, 97, 42, 98, 41, 40, 33, 40, 115, 110, 61, 42, 41, 41, 41]⟩ : ByteArray).data.toList = .ok Mt.ex1 from Mt.ex1_eq] at HP1
  rw [show Mt.parseF (⟨#[40, 99, 110, 61, 92, 50, 97, 41]⟩ : ByteArray).data.toList = .ok Mt.ex2 from Mt.ex2_eq] at HP2
  rw [show Mt.parseF (⟨#[40, 99, 110, 62, 61, 42, 41]⟩ : ByteArray).data.toList = .error 4 from Mt.ex3_eq] at HP3
  go_enter Tryd.func11, Tryd.ntmps11
  go_wp2_with fail
  refine (HP1.out _).mono ?_
  rintro e w1 ⟨hb1, pa, pc, a, c, rfl, hf1⟩
  obtain ⟨h', -, pa', pc', a', c', e', -, -, hk⟩ := hf1.open'
  obtain ⟨-, -, -, -, e4⟩ := flV_five (x0 := .int .i64 Mt.ex1.kind) (x1 := .string (Mt.str Mt.ex1.attr)) (x2 := .string (Mt.str Mt.ex1.value)) (x3 := .slice pa Mt.ex1.pcs.length pc) (x4 := .slice a Mt.ex1.kids.length c) e'
  have ea : a = a' := by injection e4
  subst ea
  obtain ⟨b, off, pa1, pc1, a1, c1, hab, -, hbl, ⟨-, -, -, y3, -⟩, -⟩ := hk.get 0 (by decide)
  obtain ⟨b2, off2, pa2, pc2, a2, c2, hab2, -, -, ⟨z0, -, -, -, -⟩, -⟩ := hk.get 1 (by decide)
  subst hab
  have eb : (⟨b, off, none⟩ : Addr) = ⟨b2, off2, none⟩ := by injection hab2
  have eb1 : b = b2 := by injection eb
  have eb2 : off = off2 := by injection eb
  subst eb1 eb2
  have t3 : w1.cell? ⟨b, off + 3, none⟩ = some (.slice pa1 2 pc1) := y3
  have t5 : w1.cell? ⟨b, off + 5, none⟩ = some (.int .i64 2) := z0
  have HT : Hid (∀ u, Below w1.heap.size w1 u → u.cell? ⟨b, off + 3, none⟩ = some (.slice pa1 2 pc1) ∧ u.cell? ⟨b, off + 5, none⟩ = some (.int .i64 2)) := Lib.hid (fun u hu => ⟨(hu.cell (p := ⟨b, off + 3, none⟩) hbl).trans t3, (hu.cell (p := ⟨b, off + 5, none⟩) hbl).trans t5⟩)
  have HB1 := Lib.hid hb1
  have hv : flV Mt.ex1 pa pc (some ⟨b, off, none⟩) c = .agg #[.int .i64 0, .string ⟨#[]⟩, .string ⟨#[]⟩, .slice pa 0 pc, .slice (some ⟨b, off, none⟩) 2 c] := rfl
  rw [hv]
  clear hv hf1 e' hk e4 y3 z0 hab2 eb hbl t3 t5 hb1
  go_upto_region 2 with fail
  have hb2 := (Below.refl w1.heap.size w1).alloc (Nat.le_refl _) (.cells #[.int .i64 0, .string ⟨#[]⟩, .string ⟨#[]⟩, .slice pa 0 pc, .slice (some ⟨b, off, none⟩) 2 c] 25)
  have h2 := heap_alloc_new w1 (.cells #[.int .i64 0, .string ⟨#[]⟩, .string ⟨#[]⟩, .slice pa 0 pc, .slice (some ⟨b, off, none⟩) 2 c] 25)
  generalize w1.alloc (.cells #[.int .i64 0, .string ⟨#[]⟩, .string ⟨#[]⟩, .slice pa 0 pc, .slice (some ⟨b, off, none⟩) 2 c] 25) = w2 at *
  have H2 := Lib.hid h2
  have HB2 := Lib.hid hb2
  clear h2 hb2
  go_wp2_with fail
  refine (HP2.out _).mono ?_
  rintro e w3 ⟨hb3, pa3, pc3, a3, c3, rfl, -⟩
  have HB3 := Lib.hid (HB2.out.trans (hb3.mono HB2.out.size))
  have H3 := Lib.hid ((hb3.block _ (lt_of_block H2.out)).trans H2.out)
  have hv : flV Mt.ex2 pa3 pc3 a3 c3 = .agg #[.int .i64 3, .string ⟨#[99, 110]⟩, .string ⟨#[42]⟩, .slice pa3 0 pc3, .slice a3 0 c3] := rfl
  rw [hv]
  clear hv hb3
  go_upto_region 3 with fail
  have hb4 := (Below.refl w3.heap.size w3).alloc (Nat.le_refl _) (.cells #[.int .i64 3, .string ⟨#[99, 110]⟩, .string ⟨#[42]⟩, .slice pa3 0 pc3, .slice a3 0 c3] 25)
  have h4 := heap_alloc_new w3 (.cells #[.int .i64 3, .string ⟨#[99, 110]⟩, .string ⟨#[42]⟩, .slice pa3 0 pc3, .slice a3 0 c3] 25)
  generalize w3.alloc (.cells #[.int .i64 3, .string ⟨#[99, 110]⟩, .string ⟨#[42]⟩, .slice pa3 0 pc3, .slice a3 0 c3] 25) = w4 at *
  have HB4 := Lib.hid (HB3.out.trans (hb4.mono HB3.out.size))
  have H34 := Lib.hid ((hb4.block _ (lt_of_block H3.out)).trans H3.out)
  have H4 := Lib.hid h4
  clear h4 hb4
  go_wp2_with fail
  refine (HP3.out _).mono ?_
  rintro e w5 ⟨hb5, rfl, -⟩
  have HB5 := Lib.hid (HB4.out.trans (hb5.mono HB4.out.size))
  have H35 := Lib.hid ((hb5.block _ (lt_of_block H34.out)).trans H34.out)
  have H45 := Lib.hid ((hb5.block _ (lt_of_block H4.out)).trans H4.out)
  simp only [zeroF]
  clear hb5
  go_upto_region 4 with fail
  have hb6 := (Below.refl w5.heap.size w5).alloc (Nat.le_refl _) (.cells #[.int .i64 0, .string ⟨#[]⟩, .string ⟨#[]⟩, .slice none 0 0, .slice none 0 0] 25)
  generalize w5.alloc (.cells #[.int .i64 0, .string ⟨#[]⟩, .string ⟨#[]⟩, .slice none 0 0, .slice none 0 0] 25) = w6 at *
  have HB6 := Lib.hid (HB5.out.trans (hb6.mono HB5.out.size))
  have H36 := Lib.hid ((hb6.block _ (lt_of_block H35.out)).trans H35.out)
  have H46 := Lib.hid ((hb6.block _ (lt_of_block H45.out)).trans H45.out)
  clear hb6
  obtain ⟨⟨-, -, -, -, q4⟩, -⟩ := box5F H36.out
  obtain ⟨⟨p0, -, p2, -, -⟩, -⟩ := box5F H46.out
  obtain ⟨t3, t5⟩ := HT.out _ HB6.out
  go_wp2_with fail
  go_ret
  exact ⟨rfl, HB1.out.trans (HB6.out.mono HB1.out.size)⟩
end Go.Proofs.YtnlbhmjgeedgpaaDoor
