/-
  Some texts of one proof, one behind the other.
-/
import Derived.Test.YtkinemlgifeimaaPk15
set_option linter.unusedVariables false
set_option linter.unusedSimpArgs false

/-
  The chapter's examples hold.
-/
namespace Go.Proofs.Ytkinemlgifeimaa
open Go.RowKit

set_option maxRecDepth 100000 in
set_option maxHeartbeats 2000000 in
theorem awake13_any (w : World) : Calls Try.prog 9 #[] w fun e w' => e = .returned (.bool true) ∧ Below w.heap.size w w' := by
  have HCO := Lib.hid (core13_any w)
  have HKK := Lib.hid (fun (u : World) (tv cv v : Value) (cs : List (List UInt8)) (h : IsSc u tv cv Mt.core) (hv : IsNms u v cs) (hf : FitN cs) => kind13_any h hv hf)
  have HWW := Lib.hid (fun (u : World) (tv cv v : Value) (cs : List (List UInt8)) (h : IsSc u tv cv Mt.core) (hv : IsNms u v cs) (hf : FitN cs) => wants13_any h hv hf Mt.core_in (by decide))
  have HCK := Lib.hid (fun (u : World) (tv cv : Value) (h : IsSc u tv cv Mt.core) => check13_any h)
  have hk1 : kindV (Mt.kindS Mt.core [Mt.nTop, Mt.nPERSON, Mt.nInet]) = .tuple #[.string ⟨#[105, 110, 101, 116, 80, 101, 114, 115, 111, 110]⟩, .bool true] := by rw [Mt.core_kind1]; rfl
  obtain ⟨kn, hk2⟩ : ∃ kn, kindV (Mt.kindS Mt.core [Mt.nPerson, Mt.nGroup]) = .tuple #[.string kn, .bool false] := ⟨_, by unfold kindV; rw [Mt.core_kind2]⟩
  have HK1 := Lib.hid hk1
  have HK2 := Lib.hid hk2
  clear hk1 hk2
  go_enter Try.func9, Try.ntmps9
  go_wp2_with fail
  refine (HCO.out).mono ?_
  rintro e w1 ⟨g1, g2, rfl, hsc, hb⟩
  have HB1 := Lib.hid hb
  obtain ⟨tv, htv⟩ : ∃ tv, Value.slice (some ⟨g1, 0, none⟩) 18 18 = tv := ⟨_, rfl⟩
  obtain ⟨cv, hcv⟩ : ∃ cv, Value.slice (some ⟨g2, 0, none⟩) 9 9 = cv := ⟨_, rfl⟩
  obtain ⟨wa, hwa⟩ : ∃ u, w1.alloc (.cells #[.slice (some ⟨g1, 0, none⟩) 18 18, .slice (some ⟨g2, 0, none⟩) 9 9] 25) = u := ⟨_, rfl⟩
  have hsa : wa.heap.size = w1.heap.size + 1 := by rw [← hwa]; simp
  have hxa : wa.heap[w1.heap.size]? = some (.cells #[.slice (some ⟨g1, 0, none⟩) 18 18, .slice (some ⟨g2, 0, none⟩) 9 9] 25) := by rw [← hwa]; exact heap_alloc_new w1 _
  have hba : Below w1.heap.size w1 wa := by rw [← hwa]; exact (Below.refl _ w1).alloc (Nat.le_refl _) _
  have HBA := Lib.hid (HB1.out.trans (hba.mono HB1.out.size))
  have HPB : Hid (∀ u, Below wa.heap.size wa u → (u.cell? ⟨w1.heap.size, 0, none⟩ = some (.slice (some ⟨g1, 0, none⟩) 18 18) ∧ u.cell? ⟨w1.heap.size, 1, none⟩ = some (.slice (some ⟨g2, 0, none⟩) 9 9)) ∧ IsSc u (.slice (some ⟨g1, 0, none⟩) 18 18) (.slice (some ⟨g2, 0, none⟩) 9 9) Mt.core ∧ Below w.heap.size w u) := Lib.hid (fun u hu => by
    have r1 := (hu.block w1.heap.size (by omega)).trans hxa
    exact ⟨⟨by rw [cell_of_row _ _ _ _ _ _ r1]; rfl, by rw [cell_of_row _ _ _ _ _ _ r1]; rfl⟩, hsc.below (hba.trans (hu.mono (by omega))), HBA.out.trans (hu.mono HBA.out.size)⟩)
  have HNM : Hid (∀ (u u1 : World) (cs : List (List UInt8)) (cc : Array Value), u.alloc (.cells cc 9) = u1 → cc = (nms cs).toArray → Below wa.heap.size wa u → (IsNms u1 (.slice (some ⟨u.heap.size, 0, none⟩) cs.length cs.length) cs) ∧ Below wa.heap.size wa u1) := Lib.hid (fun u u1 cs cc h1 h2 h3 => by
    have hr : u1.heap[u.heap.size]? = some (.cells cc 9) := by rw [← h1]; exact heap_alloc_new u _
    exact ⟨nms_of_row hr h2, h3.trans (by rw [← h1]; exact ((Below.refl _ u).alloc (Nat.le_refl _) _).mono h3.size)⟩)
  obtain ⟨p0, p1⟩ := (HPB.out wa (Below.refl _ _)).1
  obtain ⟨wb, hwb⟩ : ∃ u, wa.alloc (.cells #[.string ⟨#[116, 111, 112]⟩, .string ⟨#[80, 69, 82, 83, 79, 78]⟩, .string ⟨#[105, 110, 101, 116, 80, 101, 114, 115, 111, 110]⟩] 9) = u := ⟨_, rfl⟩
  have hnb := HNM.out wa wb [Mt.nTop, Mt.nPERSON, Mt.nInet] _ hwb rfl (Below.refl _ _)
  have HC1 := Lib.hid (HKK.out wb _ _ _ _ (HPB.out wb hnb.2).2.1 hnb.1 ⟨by decide, by decide⟩)
  rw [HK1.out] at HC1
  have HWB := Lib.hid hnb.2
  clear hsc hb hxa hba hnb htv hcv hsa
  go_wp2_with fail
  refine (HC1.out).mono ?_
  rintro e wc ⟨rfl, hb⟩
  have HWC := Lib.hid (HWB.out.trans (hb.mono HWB.out.size))
  clear hb p0 p1
  obtain ⟨p0, p1⟩ := (HPB.out wc HWC.out).1
  obtain ⟨wd, hwd⟩ : ∃ u, wc.alloc (.cells #[.string ⟨#[112, 101, 114, 115, 111, 110]⟩, .string ⟨#[103, 114, 111, 117, 112]⟩] 9) = u := ⟨_, rfl⟩
  have hnd := HNM.out wc wd [Mt.nPerson, Mt.nGroup] _ hwd rfl HWC.out
  have HC2 := Lib.hid (HKK.out wd _ _ _ _ (HPB.out wd hnd.2).2.1 hnd.1 ⟨by decide, by decide⟩)
  rw [HK2.out] at HC2
  have HWD := Lib.hid hnd.2
  clear hnd
  go_wp2_with fail
  refine (HC2.out).mono ?_
  rintro e we ⟨rfl, hb⟩
  have HWE := Lib.hid (HWD.out.trans (hb.mono HWD.out.size))
  clear hb p0 p1
  obtain ⟨p0, p1⟩ := (HPB.out we HWE.out).1
  obtain ⟨wf, hwf⟩ : ∃ u, we.alloc (.cells #[.string ⟨#[103, 114, 111, 117, 112]⟩] 9) = u := ⟨_, rfl⟩
  have hnf := HNM.out we wf [Mt.nGroup] _ hwf rfl HWE.out
  have HC3 := Lib.hid (HWW.out wf _ _ _ _ (HPB.out wf hnf.2).2.1 hnf.1 ⟨by decide, by decide⟩)
  have HWF := Lib.hid hnf.2
  clear hnf
  go_wp2_with fail
  refine (HC3.out).mono ?_
  rintro e wg ⟨va, vb, rfl, hna, hnb, hb⟩
  have HWG := Lib.hid (HWF.out.trans (hb.mono HWF.out.size))
  clear hb p0 p1
  obtain ⟨p0, p1⟩ := (HPB.out wg HWG.out).1
  have HC4 := Lib.hid (HCK.out wg _ _ (HPB.out wg HWG.out).2.1)
  rw [Mt.core_chk] at HC4
  rw [Mt.core_wants.1] at hna
  obtain ⟨ab, cb, rfl, -, -⟩ := hnb
  rw [Mt.core_wants.2]
  have HNA := Lib.hid hna
  obtain ⟨aa, ca, rfl, -, -⟩ := id hna
  clear hna
  go_wp2_with fail
  refine (HC4.out).mono ?_
  rintro e wh ⟨rfl, hb⟩
  have HWH := Lib.hid (HWG.out.trans (hb.mono HWG.out.size))
  obtain ⟨a9, c9, e9, -, hcell⟩ := HNA.out.below hb
  obtain ⟨b9, off9, e8, hb9, hc9⟩ := hcell.out 2 (by decide)
  have ea : a9 = aa := by injection e9 with h1; exact h1.symm
  subst ea
  subst e8
  have hc10 : wh.cell? ⟨b9, off9 + 2, none⟩ = some (.string ⟨#[111, 98, 106, 101, 99, 116, 99, 108, 97, 115, 115]⟩) := hc9
  have HFB := Lib.hid (HPB.out wh HWH.out).2.2
  clear hb hcell hb9 hc9 p0 p1
  go_wp2_with fail
  go_ret
  exact ⟨rfl, HFB.out⟩
end Go.Proofs.Ytkinemlgifeimaa
