/-
  The document's Element: where it ends at once.
-/
import Derived.Test.YtcijjblcoelabaaTvX
import Derived.Deep.Cut
set_option linter.unusedVariables false
set_option linter.unusedSimpArgs false
namespace Go.Proofs.Ytcijjblcoelabaa
open Go.RowKit

/-- What Element answers of the bytes from its place to an end, so many depths being left. -/
def ElemP (w : World) (R : Nat) (s : ByteArray) (fin d : Nat) (l : List UInt8) (x : Ending) (w' : World) : Prop :=
  OnlyS [R] w w' ∧ match Mt.parseL d l with
    | .error e => ∃ (t : Int) (D : ByteArray) (a : Option Addr) (m c p' : Nat), x = .returned (.agg #[.int .i64 t, .string D, .slice a m c]) ∧ IsRd w' R s p' e
    | .ok (n, r) => ∃ v, x = .returned v ∧ IsNd w' (fun b => w.heap.size ≤ b) d v n ∧ IsRd w' R s (fin - r.length) 0

/-- What stands behind a call of fail in Element. -/
theorem elem_failed {w w1 : World} {R : Nat} {s : ByteArray} {p e : Nat} (h1 : IsRd w1 R s p e) (ho : OnlyS [R] w w1) (hR : R < w.heap.size) (y0 y1 y2 : Value) :
    OnlyS [R] w (((w1.setCell ⟨w.heap.size, 0, none⟩ y0).setCell ⟨w.heap.size, 1, none⟩ y1).setCell ⟨w.heap.size, 2, none⟩ y2) ∧ IsRd (((w1.setCell ⟨w.heap.size, 0, none⟩ y0).setCell ⟨w.heap.size, 1, none⟩ y1).setCell ⟨w.heap.size, 2, none⟩ y2) R s p e := by
  have hne : R ≠ w.heap.size := by omega
  refine ⟨?_, ?_⟩
  · have hb := box_below (D := w.heap.size) (B := w.heap.size) (w := w1) (w1 := w1) (Below.refl _ _) (Nat.le_refl _) y0 y1 y2
    refine ⟨hb.os.trans ho.os, hb.tape.trans ho.tape, hb.output.trans ho.output, Nat.le_trans ho.size hb.size, fun k hk hS => (hb.block k hk).trans (ho.block k hk hS)⟩
  · unfold IsRd
    rw [heap_setCell_other _ _ _ _ hne, heap_setCell_other _ _ _ _ hne, heap_setCell_other _ _ _ _ hne]
    exact h1

set_option maxRecDepth 100000 in
set_option maxHeartbeats 1000000 in
theorem relem_deep {w : World} {R : Nat} {s : ByteArray} {p : Nat} (h : IsRd w R s p 0) (fin dep : Nat) (hd : 64 < dep) (l : List UInt8) :
    Calls Try.prog 83 #[.pointer (some ⟨R, 0, none⟩), .int .i64 fin, .int .i64 dep] w (ElemP w R s fin 0 l) := by
  have hlt := lt_of_block h
  have hb0 := (Below.refl w.heap.size w).alloc (Nat.le_refl _) (.cells #[.int .i64 0, .string ⟨#[]⟩, .slice none 0 0] 76)
  have hdd : decide ((64 : Int) < dep) = true := decide_eq_true (by omega)
  have HF : Hid (Calls Try.prog 94 #[.pointer (some ⟨R, 0, none⟩), .int .i64 6] (w.alloc (.cells #[.int .i64 0, .string ⟨#[]⟩, .slice none 0 0] 76)) fun x w' => x = .returned (.agg #[.int .i64 0, .string ByteArray.empty, .slice none 0 0]) ∧ IsRd w' R s p 6 ∧ OnlyS [R] (w.alloc (.cells #[.int .i64 0, .string ⟨#[]⟩, .slice none 0 0] 76)) w') := rfail_any ((hb0.block R hlt).trans h) 6
  have HR0 := Lib.hid (heap_alloc_new w (.cells #[.int .i64 0, .string ⟨#[]⟩, .slice none 0 0] 76))
  have HNE : Hid (R ≠ w.heap.size) := by show R ≠ _; omega
  have HLT := Lib.hid hlt
  clear hb0 h hlt hd
  go_enter Try.func83, Try.ntmps83
  go_wp2_with fail
  refine (HF.out).mono ?_
  rintro x w1 ⟨rfl, hrd, ho⟩
  have HE := Lib.hid (elem_failed hrd (((OnlyS.refl _ w).alloc _).trans ho) HLT.out (.int .i64 0) (.string ⟨#[]⟩) (.slice none 0 0))
  obtain ⟨c0, c1, c2, f0, f1, f2⟩ := box_of ((ho.block w.heap.size (by simp) (by have := HNE.out; simp; omega)).trans HR0.out)
  clear hrd ho
  go_wp2_with fail
  refine bodyPost_ret (v := .agg #[.int .i64 0, .string ByteArray.empty, .slice none 0 0]) (by simp [results, Try.results83, go_sem, c0, c1, c2]) rfl ⟨HE.out.1, ?_⟩
  rw [show Mt.parseL 0 l = .error 6 by simp [Mt.parseL]]
  exact ⟨_, _, _, _, _, p, rfl, HE.out.2⟩

set_option maxRecDepth 100000 in
set_option maxHeartbeats 1000000 in
theorem relem_none {w : World} {R : Nat} {s : ByteArray} {p : Nat} (h : IsRd w R s p 0) (fin dep d : Nat) (hd : dep ≤ 64) (hp : fin ≤ p) (l : List UInt8) (hl : Mt.splitL l = .error 3) :
    Calls Try.prog 83 #[.pointer (some ⟨R, 0, none⟩), .int .i64 fin, .int .i64 dep] w (ElemP w R s fin (d + 1) l) := by
  have hlt := lt_of_block h
  have hb0 := (Below.refl w.heap.size w).alloc (Nat.le_refl _) (.cells #[.int .i64 0, .string ⟨#[]⟩, .slice none 0 0] 76)
  have hdd : decide ((64 : Int) < dep) = false := decide_eq_false (by omega)
  have hpe : decide (fin ≤ p) = true := decide_eq_true hp
  have hr0 := (hb0.block R hlt).trans h
  obtain ⟨r0, r1, r2, _, _, _⟩ := box_of hr0
  have HF : Hid (Calls Try.prog 94 #[.pointer (some ⟨R, 0, none⟩), .int .i64 3] (w.alloc (.cells #[.int .i64 0, .string ⟨#[]⟩, .slice none 0 0] 76)) fun x w' => x = .returned (.agg #[.int .i64 0, .string ByteArray.empty, .slice none 0 0]) ∧ IsRd w' R s p 3 ∧ OnlyS [R] (w.alloc (.cells #[.int .i64 0, .string ⟨#[]⟩, .slice none 0 0] 76)) w') := rfail_any (w := (w.alloc (.cells #[.int .i64 0, .string ⟨#[]⟩, .slice none 0 0] 76))) ((hb0.block R hlt).trans h) 3
  have HR0 := Lib.hid (heap_alloc_new w (.cells #[.int .i64 0, .string ⟨#[]⟩, .slice none 0 0] 76))
  have HNE : Hid (R ≠ w.heap.size) := by show R ≠ _; omega
  have HLT := Lib.hid hlt
  have HL := Lib.hid hl
  clear hb0 h hlt hd hr0 hl hp
  go_enter Try.func83, Try.ntmps83
  go_wp2_with fail
  refine (HF.out).mono ?_
  rintro x w1 ⟨rfl, hrd, ho⟩
  have HE := Lib.hid (elem_failed hrd (((OnlyS.refl _ w).alloc _).trans ho) HLT.out (.int .i64 0) (.string ⟨#[]⟩) (.slice none 0 0))
  obtain ⟨c0, c1, c2, f0, f1, f2⟩ := box_of ((ho.block w.heap.size (by simp [World.drewN]) (by have := HNE.out; simp; omega)).trans HR0.out)
  clear hrd ho
  go_wp2_with fail
  refine bodyPost_ret (v := .agg #[.int .i64 0, .string ByteArray.empty, .slice none 0 0]) (by simp [results, Try.results83, go_sem, c0, c1, c2]) rfl ⟨HE.out.1, ?_⟩
  rw [show Mt.parseL (d + 1) l = .error 3 by simp [Mt.parseL, HL.out]]
  exact ⟨_, _, _, _, _, p, rfl, HE.out.2⟩

set_option maxRecDepth 100000 in
set_option maxHeartbeats 1000000 in
theorem relem_tag {w : World} {R : Nat} {s : ByteArray} {p : Nat} (h : IsRd w R s p 0) (fin dep d : Nat) (hd : dep ≤ 64) (hp : p < fin) (hf : fin ≤ s.size) (hs : s.size ≤ 140737488351232) (ht : (s[p]'(by omega)).toNat % 32 = 31) (l : List UInt8) (hl : Mt.splitL l = .error 7) :
    Calls Try.prog 83 #[.pointer (some ⟨R, 0, none⟩), .int .i64 fin, .int .i64 dep] w (ElemP w R s fin (d + 1) l) := by
  have hlt := lt_of_block h
  have hb0 := (Below.refl w.heap.size w).alloc (Nat.le_refl _) (.cells #[.int .i64 0, .string ⟨#[]⟩, .slice none 0 0] 76)
  have hdd : decide ((64 : Int) < dep) = false := decide_eq_false (by omega)
  have hpe : decide (fin ≤ p) = false := decide_eq_false (by omega)
  have hps : p < s.size := by omega
  have hw : wrap64 ((s[p]'(by omega)).toNat : Int) = ((s[p]'(by omega)).toNat : Int) := by
    have := (s[p]'(by omega)).toNat_lt
    simp only [wrap64]; omega
  have hti : ((wrap64 ((s[p]'(by omega)).toNat : Int)).tmod 32 == 31) = true := by
    rw [hw, Int.tmod_eq_emod_of_nonneg (by omega)]; simp; omega
  clear hw
  have hr0 := (hb0.block R hlt).trans h
  obtain ⟨r0, r1, r2, _, _, _⟩ := box_of hr0
  have HF : Hid (∀ k, Calls Try.prog 94 #[.pointer (some ⟨R, 0, none⟩), .int .i64 7] ((w.alloc (.cells #[.int .i64 0, .string ⟨#[]⟩, .slice none 0 0] 76)).drewN k) fun x w' => x = .returned (.agg #[.int .i64 0, .string ByteArray.empty, .slice none 0 0]) ∧ IsRd w' R s p 7 ∧ OnlyS [R] ((w.alloc (.cells #[.int .i64 0, .string ⟨#[]⟩, .slice none 0 0] 76)).drewN k) w') := fun k => rfail_any (w := ((w.alloc (.cells #[.int .i64 0, .string ⟨#[]⟩, .slice none 0 0] 76)).drewN k)) ((hb0.block R hlt).trans h) 7
  have HR0 := Lib.hid (heap_alloc_new w (.cells #[.int .i64 0, .string ⟨#[]⟩, .slice none 0 0] 76))
  have HNE : Hid (R ≠ w.heap.size) := by show R ≠ _; omega
  have HLT := Lib.hid hlt
  have HL := Lib.hid hl
  clear hb0 h hlt hd hr0 hl 
  go_enter Try.func83, Try.ntmps83
  go_wp2_with fail
  go_quiet (fail)
  go_wp2_with fail
  refine (HF.out _).mono ?_
  rintro x w1 ⟨rfl, hrd, ho⟩
  have HE := Lib.hid (elem_failed hrd ((((OnlyS.refl _ w).alloc _).drewN _).trans ho) HLT.out (.int .i64 0) (.string ⟨#[]⟩) (.slice none 0 0))
  obtain ⟨c0, c1, c2, f0, f1, f2⟩ := box_of ((ho.block w.heap.size (by simp [World.drewN]) (by have := HNE.out; simp; omega)).trans HR0.out)
  clear hrd ho
  go_wp2_with fail
  refine bodyPost_ret (v := .agg #[.int .i64 0, .string ByteArray.empty, .slice none 0 0]) (by simp [results, Try.results83, go_sem, c0, c1, c2]) rfl ⟨HE.out.1, ?_⟩
  rw [show Mt.parseL (d + 1) l = .error 7 by simp [Mt.parseL, HL.out]]
  exact ⟨_, _, _, _, _, p, rfl, HE.out.2⟩

set_option maxRecDepth 100000 in
set_option maxHeartbeats 1000000 in
theorem relem_short {w : World} {R : Nat} {s : ByteArray} {p : Nat} (h : IsRd w R s p 0) (fin dep d : Nat) (hd : dep ≤ 64) (hp : p < fin) (hf : fin ≤ s.size) (hs : s.size ≤ 140737488351232) (ht : (s[p]'(by omega)).toNat % 32 ≠ 31) (hp2 : fin ≤ p + 1) (l : List UInt8) (hl : Mt.splitL l = .error 3) :
    Calls Try.prog 83 #[.pointer (some ⟨R, 0, none⟩), .int .i64 fin, .int .i64 dep] w (ElemP w R s fin (d + 1) l) := by
  have hlt := lt_of_block h
  have hb0 := (Below.refl w.heap.size w).alloc (Nat.le_refl _) (.cells #[.int .i64 0, .string ⟨#[]⟩, .slice none 0 0] 76)
  have hdd : decide ((64 : Int) < dep) = false := decide_eq_false (by omega)
  have hpe : decide (fin ≤ p) = false := decide_eq_false (by omega)
  have hpe2 : decide (fin ≤ p + 1) = true := decide_eq_true hp2
  have hpe3 : decide ((fin : Int) ≤ (p : Int) + 1) = true := decide_eq_true (by omega)
  have hps : p < s.size := by omega
  have hw : wrap64 ((s[p]'(by omega)).toNat : Int) = ((s[p]'(by omega)).toNat : Int) := by
    have := (s[p]'(by omega)).toNat_lt
    simp only [wrap64]; omega
  have hti : ((wrap64 ((s[p]'(by omega)).toNat : Int)).tmod 32 == 31) = false := by
    rw [hw, Int.tmod_eq_emod_of_nonneg (by omega)]; simp; omega
  clear hw
  have hr0 := (hb0.block R hlt).trans h
  obtain ⟨r0, r1, r2, _, _, _⟩ := box_of hr0
  have HF : Hid (∀ k, Calls Try.prog 94 #[.pointer (some ⟨R, 0, none⟩), .int .i64 3] ((w.alloc (.cells #[.int .i64 0, .string ⟨#[]⟩, .slice none 0 0] 76)).drewN k) fun x w' => x = .returned (.agg #[.int .i64 0, .string ByteArray.empty, .slice none 0 0]) ∧ IsRd w' R s p 3 ∧ OnlyS [R] ((w.alloc (.cells #[.int .i64 0, .string ⟨#[]⟩, .slice none 0 0] 76)).drewN k) w') := fun k => rfail_any (w := ((w.alloc (.cells #[.int .i64 0, .string ⟨#[]⟩, .slice none 0 0] 76)).drewN k)) ((hb0.block R hlt).trans h) 3
  have HR0 := Lib.hid (heap_alloc_new w (.cells #[.int .i64 0, .string ⟨#[]⟩, .slice none 0 0] 76))
  have HNE : Hid (R ≠ w.heap.size) := by show R ≠ _; omega
  have HLT := Lib.hid hlt
  have HL := Lib.hid hl
  clear hb0 h hlt hd hr0 hl 
  go_enter Try.func83, Try.ntmps83
  go_wp2_with fail
  go_quiet (fail)
  go_wp2_with fail
  refine (HF.out _).mono ?_
  rintro x w1 ⟨rfl, hrd, ho⟩
  have HE := Lib.hid (elem_failed hrd ((((OnlyS.refl _ w).alloc _).drewN _).trans ho) HLT.out (.int .i64 0) (.string ⟨#[]⟩) (.slice none 0 0))
  obtain ⟨c0, c1, c2, f0, f1, f2⟩ := box_of ((ho.block w.heap.size (by simp [World.drewN]) (by have := HNE.out; simp; omega)).trans HR0.out)
  clear hrd ho
  go_wp2_with fail
  refine bodyPost_ret (v := .agg #[.int .i64 0, .string ByteArray.empty, .slice none 0 0]) (by simp [results, Try.results83, go_sem, c0, c1, c2]) rfl ⟨HE.out.1, ?_⟩
  rw [show Mt.parseL (d + 1) l = .error 3 by simp [Mt.parseL, HL.out]]
  exact ⟨_, _, _, _, _, p, rfl, HE.out.2⟩
end Go.Proofs.Ytcijjblcoelabaa
