/-
  The schema of the chapter, as it is laid.
-/
import Derived.Test.YthkhicpkkmhfbaaScO
namespace Go.Proofs.Ythkhicpkkmhfbaa
open Go.RowKit

namespace Mt
def coreT : List Ty := [⟨[111, 98, 106, 101, 99, 116, 67, 108, 97, 115, 115], 3, false, false⟩, ⟨[99, 110], 1, false, false⟩, ⟨[115, 110], 1, false, false⟩, ⟨[111, 117], 1, false, false⟩, ⟨[111], 1, false, false⟩, ⟨[100, 99], 3, false, false⟩, ⟨[117, 105, 100], 3, false, false⟩, ⟨[109, 97, 105, 108], 3, false, false⟩, ⟨[100, 101, 115, 99, 114, 105, 112, 116, 105, 111, 110], 1, false, false⟩, ⟨[109, 101, 109, 98, 101, 114], 6, false, false⟩, ⟨[117, 115, 101, 114, 80, 97, 115, 115, 119, 111, 114, 100], 7, false, false⟩, ⟨[101, 109, 112, 108, 111, 121, 101, 101, 78, 117, 109, 98, 101, 114], 4, true, false⟩, ⟨[97, 99, 116, 105, 118, 101], 5, true, false⟩, ⟨[99, 114, 101, 97, 116, 101, 100, 65, 116], 4, true, true⟩, ⟨[99, 104, 97, 110, 103, 101, 100, 65, 116], 4, true, true⟩, ⟨[112, 119, 100, 70, 97, 105, 108, 117, 114, 101], 3, false, true⟩, ⟨[112, 119, 100, 76, 111, 99, 107, 101, 100], 4, true, true⟩, ⟨[112, 119, 100, 67, 104, 97, 110, 103, 101, 100], 4, true, true⟩]
def coreC : List Cl := [⟨[116, 111, 112], [], 0, [[111, 98, 106, 101, 99, 116, 67, 108, 97, 115, 115]], [[99, 114, 101, 97, 116, 101, 100, 65, 116], [99, 104, 97, 110, 103, 101, 100, 65, 116], [112, 119, 100, 70, 97, 105, 108, 117, 114, 101], [112, 119, 100, 76, 111, 99, 107, 101, 100], [112, 119, 100, 67, 104, 97, 110, 103, 101, 100]]⟩, ⟨[100, 111, 109, 97, 105, 110], [116, 111, 112], 1, [[100, 99]], [[100, 101, 115, 99, 114, 105, 112, 116, 105, 111, 110]]⟩, ⟨[111, 114, 103, 97, 110, 105, 122, 97, 116, 105, 111, 110], [116, 111, 112], 1, [[111]], [[100, 101, 115, 99, 114, 105, 112, 116, 105, 111, 110]]⟩, ⟨[111, 114, 103, 97, 110, 105, 122, 97, 116, 105, 111, 110, 97, 108, 85, 110, 105, 116], [116, 111, 112], 1, [[111, 117]], [[100, 101, 115, 99, 114, 105, 112, 116, 105, 111, 110]]⟩, ⟨[112, 101, 114, 115, 111, 110], [116, 111, 112], 1, [[99, 110], [115, 110]], [[100, 101, 115, 99, 114, 105, 112, 116, 105, 111, 110], [117, 115, 101, 114, 80, 97, 115, 115, 119, 111, 114, 100]]⟩, ⟨[105, 110, 101, 116, 80, 101, 114, 115, 111, 110], [112, 101, 114, 115, 111, 110], 1, [], [[117, 105, 100], [109, 97, 105, 108], [101, 109, 112, 108, 111, 121, 101, 101, 78, 117, 109, 98, 101, 114], [97, 99, 116, 105, 118, 101]]⟩, ⟨[103, 114, 111, 117, 112], [116, 111, 112], 1, [[99, 110], [109, 101, 109, 98, 101, 114]], [[100, 101, 115, 99, 114, 105, 112, 116, 105, 111, 110]]⟩, ⟨[115, 101, 99, 117, 114, 101, 100], [116, 111, 112], 2, [[117, 115, 101, 114, 80, 97, 115, 115, 119, 111, 114, 100]], []⟩, ⟨[108, 97, 98, 101, 108, 108, 101, 100], [116, 111, 112], 2, [], [[117, 105, 100], [109, 97, 105, 108]]⟩]
def core : Sc := ⟨coreT, coreC⟩
end Mt
/-- The cells of types. -/
def tyCells (l : List Mt.Ty) : List Value := l.flatMap fun t => [.string (Mt.str t.name), .int .i64 t.syn, .bool t.single, .bool t.oper]
theorem tyCells_get : ∀ (r : List Mt.Ty) (j : Nat) (hj : j < r.length), (tyCells r)[j * 4]? = some (.string (Mt.str r[j].name)) ∧ (tyCells r)[j * 4 + 1]? = some (.int .i64 r[j].syn) ∧ (tyCells r)[j * 4 + 2]? = some (.bool r[j].single) ∧ (tyCells r)[j * 4 + 3]? = some (.bool r[j].oper)
  | [], j, hj => by simp at hj
  | a :: r, 0, _ => ⟨rfl, rfl, rfl, rfl⟩
  | a :: r, j + 1, hj => by
    have h := tyCells_get r j (by simpa using hj)
    have e : tyCells (a :: r) = .string (Mt.str a.name) :: .int .i64 a.syn :: .bool a.single :: .bool a.oper :: tyCells r := rfl
    rw [e, show (j + 1) * 4 = j * 4 + 4 by omega]
    exact h
theorem tys_of_row {u : World} {g : Nat} {l : List Mt.Ty} {cs : Array Value} (h : u.heap[g]? = some (.cells cs 35)) (hc : cs = (tyCells l).toArray) : IsTys u (.slice (some ⟨g, 0, none⟩) l.length l.length) l := by
  refine ⟨_, _, rfl, Nat.le_refl _, Lib.hid fun j hj => ⟨g, 0, rfl, lt_of_block h, ?_⟩⟩
  obtain ⟨h0, h1, h2, h3⟩ := tyCells_get l j hj
  subst hc
  simp only [Nat.zero_add]
  exact ⟨by rw [cell_of_row _ _ _ _ _ _ h, List.getElem?_toArray]; exact h0, by rw [cell_of_row _ _ _ _ _ _ h, List.getElem?_toArray]; exact h1, by rw [cell_of_row _ _ _ _ _ _ h, List.getElem?_toArray]; exact h2, by rw [cell_of_row _ _ _ _ _ _ h, List.getElem?_toArray]; exact h3⟩
theorem nms_of_row {u : World} {g : Nat} {l : List (List UInt8)} {cs : Array Value} (h : u.heap[g]? = some (.cells cs 9)) (hc : cs = (nms l).toArray) : IsNms u (.slice (some ⟨g, 0, none⟩) l.length l.length) l := by
  refine ⟨_, _, rfl, Nat.le_refl _, Lib.hid fun j hj => ⟨g, 0, rfl, lt_of_block h, ?_⟩⟩
  subst hc
  rw [cell_of_row _ _ _ _ _ _ h, List.getElem?_toArray]
  simp [nms, hj]
theorem nms_none (u : World) : IsNms u (.slice none 0 0) [] := ⟨none, 0, rfl, Nat.le_refl _, Lib.hid fun j hj => absurd hj (by simp)⟩
/-- The cells of classes, with the slices of what they list. -/
def clCells (l : List (Mt.Cl × Value × Value)) : List Value := l.flatMap fun t => [.string (Mt.str t.1.name), .string (Mt.str t.1.sup), .int .i64 t.1.kind, t.2.1, t.2.2]
theorem clCells_get : ∀ (r : List (Mt.Cl × Value × Value)) (j : Nat) (hj : j < r.length), (clCells r)[j * 5]? = some (.string (Mt.str r[j].1.name)) ∧ (clCells r)[j * 5 + 1]? = some (.string (Mt.str r[j].1.sup)) ∧ (clCells r)[j * 5 + 2]? = some (.int .i64 r[j].1.kind) ∧ (clCells r)[j * 5 + 3]? = some r[j].2.1 ∧ (clCells r)[j * 5 + 4]? = some r[j].2.2
  | [], j, hj => by simp at hj
  | a :: r, 0, _ => ⟨rfl, rfl, rfl, rfl, rfl⟩
  | a :: r, j + 1, hj => by
    have h := clCells_get r j (by simpa using hj)
    have e : clCells (a :: r) = .string (Mt.str a.1.name) :: .string (Mt.str a.1.sup) :: .int .i64 a.1.kind :: a.2.1 :: a.2.2 :: clCells r := rfl
    rw [e, show (j + 1) * 5 = j * 5 + 5 by omega]
    exact h
theorem cls_of_row {u : World} {g : Nat} {l : List (Mt.Cl × Value × Value)} {cs : Array Value} (h : u.heap[g]? = some (.cells cs 31)) (hc : cs = (clCells l).toArray) (hl : ∀ p ∈ l, IsNms u p.2.1 p.1.must ∧ IsNms u p.2.2 p.1.may) : IsCls u (.slice (some ⟨g, 0, none⟩) l.length l.length) (l.map (·.1)) := by
  refine ⟨_, _, by rw [List.length_map], by rw [List.length_map]; exact Nat.le_refl _, Lib.hid fun j hj => ?_⟩
  rw [List.length_map] at hj
  obtain ⟨h0, h1, h2, h3, h4⟩ := clCells_get l j hj
  obtain ⟨h5, h6⟩ := hl _ (List.getElem_mem hj)
  subst hc
  simp only [Nat.zero_add, List.getElem_map]
  exact ⟨g, 0, l[j].2.1, l[j].2.2, rfl, lt_of_block h, by rw [Nat.zero_add, cell_of_row _ _ _ _ _ _ h, List.getElem?_toArray]; exact h0, by rw [Nat.zero_add, cell_of_row _ _ _ _ _ _ h, List.getElem?_toArray]; exact h1, by rw [Nat.zero_add, cell_of_row _ _ _ _ _ _ h, List.getElem?_toArray]; exact h2, by rw [Nat.zero_add, cell_of_row _ _ _ _ _ _ h, List.getElem?_toArray]; exact h3, by rw [Nat.zero_add, cell_of_row _ _ _ _ _ _ h, List.getElem?_toArray]; exact h4, h5, h6⟩
/-- What lies behind a place is as it was. -/
def Above (w w' u : World) : Prop := w'.heap.size ≤ u.heap.size ∧ ∀ k, w.heap.size ≤ k → k < w'.heap.size → u.heap[k]? = w'.heap[k]?
theorem Above.refl (w w' : World) : Above w w' w' := ⟨Nat.le_refl _, fun _ _ _ => rfl⟩
set_option maxRecDepth 100000 in
set_option maxHeartbeats 1000000 in
theorem coreTypes_any (w : World) : Calls Try.prog 44 #[] w fun e w' => ∃ g, e = .returned (.slice (some ⟨g, 0, none⟩) 18 18) ∧ Hid (∀ u, Above w w' u → IsTys u (.slice (some ⟨g, 0, none⟩) 18 18) Mt.coreT) ∧ Below w.heap.size w w' := by
  obtain ⟨w1, hw1⟩ : ∃ w1, w.alloc (.cells #[.string ⟨#[111, 98, 106, 101, 99, 116, 67, 108, 97, 115, 115]⟩, .int .i64 3, .bool false, .bool false, .string ⟨#[99, 110]⟩, .int .i64 1, .bool false, .bool false, .string ⟨#[115, 110]⟩, .int .i64 1, .bool false, .bool false, .string ⟨#[111, 117]⟩, .int .i64 1, .bool false, .bool false, .string ⟨#[111]⟩, .int .i64 1, .bool false, .bool false, .string ⟨#[100, 99]⟩, .int .i64 3, .bool false, .bool false, .string ⟨#[117, 105, 100]⟩, .int .i64 3, .bool false, .bool false, .string ⟨#[109, 97, 105, 108]⟩, .int .i64 3, .bool false, .bool false, .string ⟨#[100, 101, 115, 99, 114, 105, 112, 116, 105, 111, 110]⟩, .int .i64 1, .bool false, .bool false, .string ⟨#[109, 101, 109, 98, 101, 114]⟩, .int .i64 6, .bool false, .bool false, .string ⟨#[117, 115, 101, 114, 80, 97, 115, 115, 119, 111, 114, 100]⟩, .int .i64 7, .bool false, .bool false, .string ⟨#[101, 109, 112, 108, 111, 121, 101, 101, 78, 117, 109, 98, 101, 114]⟩, .int .i64 4, .bool true, .bool false, .string ⟨#[97, 99, 116, 105, 118, 101]⟩, .int .i64 5, .bool true, .bool false, .string ⟨#[99, 114, 101, 97, 116, 101, 100, 65, 116]⟩, .int .i64 4, .bool true, .bool true, .string ⟨#[99, 104, 97, 110, 103, 101, 100, 65, 116]⟩, .int .i64 4, .bool true, .bool true, .string ⟨#[112, 119, 100, 70, 97, 105, 108, 117, 114, 101]⟩, .int .i64 3, .bool false, .bool true, .string ⟨#[112, 119, 100, 76, 111, 99, 107, 101, 100]⟩, .int .i64 4, .bool true, .bool true, .string ⟨#[112, 119, 100, 67, 104, 97, 110, 103, 101, 100]⟩, .int .i64 4, .bool true, .bool true] 35) = w1 := ⟨_, rfl⟩
  have HB : Hid (Below w.heap.size w w1) := Lib.hid (by rw [← hw1]; exact (Below.refl _ w).alloc (Nat.le_refl _) _)
  have HR : Hid (∀ u, Above w w1 u → IsTys u (.slice (some ⟨w.heap.size, 0, none⟩) 18 18) Mt.coreT) := Lib.hid (fun u hu => by
    have h := heap_alloc_new w (.cells #[.string ⟨#[111, 98, 106, 101, 99, 116, 67, 108, 97, 115, 115]⟩, .int .i64 3, .bool false, .bool false, .string ⟨#[99, 110]⟩, .int .i64 1, .bool false, .bool false, .string ⟨#[115, 110]⟩, .int .i64 1, .bool false, .bool false, .string ⟨#[111, 117]⟩, .int .i64 1, .bool false, .bool false, .string ⟨#[111]⟩, .int .i64 1, .bool false, .bool false, .string ⟨#[100, 99]⟩, .int .i64 3, .bool false, .bool false, .string ⟨#[117, 105, 100]⟩, .int .i64 3, .bool false, .bool false, .string ⟨#[109, 97, 105, 108]⟩, .int .i64 3, .bool false, .bool false, .string ⟨#[100, 101, 115, 99, 114, 105, 112, 116, 105, 111, 110]⟩, .int .i64 1, .bool false, .bool false, .string ⟨#[109, 101, 109, 98, 101, 114]⟩, .int .i64 6, .bool false, .bool false, .string ⟨#[117, 115, 101, 114, 80, 97, 115, 115, 119, 111, 114, 100]⟩, .int .i64 7, .bool false, .bool false, .string ⟨#[101, 109, 112, 108, 111, 121, 101, 101, 78, 117, 109, 98, 101, 114]⟩, .int .i64 4, .bool true, .bool false, .string ⟨#[97, 99, 116, 105, 118, 101]⟩, .int .i64 5, .bool true, .bool false, .string ⟨#[99, 114, 101, 97, 116, 101, 100, 65, 116]⟩, .int .i64 4, .bool true, .bool true, .string ⟨#[99, 104, 97, 110, 103, 101, 100, 65, 116]⟩, .int .i64 4, .bool true, .bool true, .string ⟨#[112, 119, 100, 70, 97, 105, 108, 117, 114, 101]⟩, .int .i64 3, .bool false, .bool true, .string ⟨#[112, 119, 100, 76, 111, 99, 107, 101, 100]⟩, .int .i64 4, .bool true, .bool true, .string ⟨#[112, 119, 100, 67, 104, 97, 110, 103, 101, 100]⟩, .int .i64 4, .bool true, .bool true] 35)
    rw [hw1] at h
    exact tys_of_row (l := Mt.coreT) ((hu.2 w.heap.size (Nat.le_refl _) (lt_of_block h)).trans h) rfl)
  go_enter Try.func44, Try.ntmps44
  go_wp2_with fail
  go_ret
  exact ⟨_, rfl, HR, HB.out⟩
end Go.Proofs.Ythkhicpkkmhfbaa
