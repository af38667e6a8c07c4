/-
  Of three values: where one is too long, or has no place in the order.
-/
import Derived.Test.YtfogcgegllhmmaaGreatDoorSyDoor
import Derived.Test.YtfogcgegllhmmaaGreatDoorSyG
import Derived.Test.YtfogcgegllhmmaaGreatDoorSyR
import Derived.SevenTiedAt
import Derived.ProofKit
import Derived.OpenShut
import Derived.ShutString
import Derived.SizedLaws
import Derived.SliceStrings
namespace Go.Proofs.YtfogcgegllhmmaaGreatDoor.syntaxRanks
open Go.ChangeShapes Go.WideShapes Go.ChangeAt Go.RowKit
open Go.ChangeMaps (open_string shut_string)
set_option linter.unusedVariables false

set_option maxRecDepth 100000 in
/-- One is too long. -/
theorem big (syn : Int) (a b c : ByteArray) (h : 5000 < a.size ∨ (a.size ≤ 5000 ∧ 5000 < b.size) ∨ (a.size ≤ 5000 ∧ b.size ≤ 5000 ∧ 5000 < c.size)) (w : World) (hg : LaidY w) :
    Calls Tryz.prog 6 #[.int .i64 syn, .string a, .string b, .string c] w fun e w' => e = .returned (.bool true) ∧ Below w.heap.size w w' := by
  have HL := Lib.hid (fun u (hu : Below w.heap.size w u) => hg.below hu)
  rcases h with h | ⟨h1, h⟩ | ⟨h1, h2, h⟩
  · have d1 : decide ((5000 : Int) < (a.size : Int)) = true := decide_eq_true (by omega)
    clear h hg
    go_enter Tryz.func6, Tryz.ntmps6
    go_wp2_with fail
    refine (awake12_any _ (HL.out _ (Below.refl _ _))).mono ?_
    rintro e w2 ⟨rfl, hb⟩
    have HB := Lib.hid hb
    clear hb
    go_wp2_with fail
    go_ret
    exact ⟨rfl, HB.out⟩
  · have d1 : decide ((5000 : Int) < (a.size : Int)) = false := decide_eq_false (by omega)
    have d2 : decide ((5000 : Int) < (b.size : Int)) = true := decide_eq_true (by omega)
    clear h h1 hg
    go_enter Tryz.func6, Tryz.ntmps6
    go_wp2_with fail
    refine (awake12_any _ (HL.out _ (Below.refl _ _))).mono ?_
    rintro e w2 ⟨rfl, hb⟩
    have HB := Lib.hid hb
    clear hb
    go_wp2_with fail
    go_ret
    exact ⟨rfl, HB.out⟩
  · have d1 : decide ((5000 : Int) < (a.size : Int)) = false := decide_eq_false (by omega)
    have d2 : decide ((5000 : Int) < (b.size : Int)) = false := decide_eq_false (by omega)
    have d3 : decide ((5000 : Int) < (c.size : Int)) = true := decide_eq_true (by omega)
    clear h h1 h2 hg
    go_enter Tryz.func6, Tryz.ntmps6
    go_wp2_with fail
    refine (awake12_any _ (HL.out _ (Below.refl _ _))).mono ?_
    rintro e w2 ⟨rfl, hb⟩
    have HB := Lib.hid hb
    clear hb
    go_wp2_with fail
    go_ret
    exact ⟨rfl, HB.out⟩

set_option maxRecDepth 100000 in
/-- One has no place in the order. -/
theorem no (syn : Int) (a b c : ByteArray) (w : World) (hg : LaidY w) (d1 : decide ((5000 : Int) < (a.size : Int)) = false) (d2 : decide ((5000 : Int) < (b.size : Int)) = false) (d3 : decide ((5000 : Int) < (c.size : Int)) = false)
    (x y z v : Int) (xf yf zf vf : Bool) (hf : xf = false ∨ (xf = true ∧ yf = false))
    (H1 : Calls Tryz.prog 12 #[.int .i64 syn, .string a, .string b] w fun e w' => e = .returned (.tuple #[.int .i64 x, .bool xf]) ∧ Below w.heap.size w w')
    (H2 : ∀ u, Below w.heap.size w u → Calls Tryz.prog 12 #[.int .i64 syn, .string b, .string c] u fun e w' => e = .returned (.tuple #[.int .i64 y, .bool yf]) ∧ Below u.heap.size u w')
    (H3 : ∀ u, Below w.heap.size w u → Calls Tryz.prog 12 #[.int .i64 syn, .string a, .string c] u fun e w' => e = .returned (.tuple #[.int .i64 z, .bool zf]) ∧ Below u.heap.size u w')
    (H4 : ∀ u, Below w.heap.size w u → Calls Tryz.prog 12 #[.int .i64 syn, .string b, .string a] u fun e w' => e = .returned (.tuple #[.int .i64 v, .bool vf]) ∧ Below u.heap.size u w') :
    Calls Tryz.prog 6 #[.int .i64 syn, .string a, .string b, .string c] w fun e w' => e = .returned (.bool true) ∧ Below w.heap.size w w' := by
  have HL := Lib.hid (fun u (hu : Below w.heap.size w u) => hg.below hu)
  replace H1 := Lib.hid H1
  replace H2 := Lib.hid H2
  replace H3 := Lib.hid H3
  replace H4 := Lib.hid H4
  clear hg
  rcases hf with rfl | ⟨rfl, rfl⟩
  · go_enter Tryz.func6, Tryz.ntmps6
    go_wp2_with fail
    refine H1.out.mono ?_
    rintro e w2 ⟨rfl, hb⟩
    have HB := Lib.hid hb
    clear hb
    go_wp2_with fail
    refine (H2.out _ HB.out).mono ?_
    rintro e w3 ⟨rfl, hb⟩
    replace HB := Lib.hid (HB.out.trans (hb.mono HB.out.size))
    clear hb
    go_wp2_with fail
    refine (H3.out _ HB.out).mono ?_
    rintro e w4 ⟨rfl, hb⟩
    replace HB := Lib.hid (HB.out.trans (hb.mono HB.out.size))
    clear hb
    go_wp2_with fail
    refine (H4.out _ HB.out).mono ?_
    rintro e w5 ⟨rfl, hb⟩
    replace HB := Lib.hid (HB.out.trans (hb.mono HB.out.size))
    clear hb
    go_wp2_with fail
    refine (awake12_any _ (HL.out _ HB.out)).mono ?_
    rintro e w6 ⟨rfl, hb⟩
    replace HB := Lib.hid (HB.out.trans (hb.mono HB.out.size))
    clear hb
    go_wp2_with fail
    refine (awake12_any _ (HL.out _ HB.out)).mono ?_
    rintro e w7 ⟨rfl, hb⟩
    replace HB := Lib.hid (HB.out.trans (hb.mono HB.out.size))
    clear hb
    go_wp2_with fail
    go_ret
    exact ⟨rfl, HB.out⟩
  · go_enter Tryz.func6, Tryz.ntmps6
    go_wp2_with fail
    refine H1.out.mono ?_
    rintro e w2 ⟨rfl, hb⟩
    have HB := Lib.hid hb
    clear hb
    go_wp2_with fail
    refine (H2.out _ HB.out).mono ?_
    rintro e w3 ⟨rfl, hb⟩
    replace HB := Lib.hid (HB.out.trans (hb.mono HB.out.size))
    clear hb
    go_wp2_with fail
    refine (H3.out _ HB.out).mono ?_
    rintro e w4 ⟨rfl, hb⟩
    replace HB := Lib.hid (HB.out.trans (hb.mono HB.out.size))
    clear hb
    go_wp2_with fail
    refine (H4.out _ HB.out).mono ?_
    rintro e w5 ⟨rfl, hb⟩
    replace HB := Lib.hid (HB.out.trans (hb.mono HB.out.size))
    clear hb
    go_wp2_with fail
    refine (awake12_any _ (HL.out _ HB.out)).mono ?_
    rintro e w6 ⟨rfl, hb⟩
    replace HB := Lib.hid (HB.out.trans (hb.mono HB.out.size))
    clear hb
    go_wp2_with fail
    refine (awake12_any _ (HL.out _ HB.out)).mono ?_
    rintro e w7 ⟨rfl, hb⟩
    replace HB := Lib.hid (HB.out.trans (hb.mono HB.out.size))
    clear hb
    go_wp2_with fail
    go_ret
    exact ⟨rfl, HB.out⟩
end Go.Proofs.YtfogcgegllhmmaaGreatDoor.syntaxRanks
