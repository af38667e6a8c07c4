/-
  The two books, side by side.
-/
import Derived.Test.YtmdhioifdnaajaaPgU
import Derived.Test.YtmdhioifdnaajaaPgS
import Derived.Test.YtmdhioifdnaajaaPgJ
set_option linter.unusedVariables false
set_option linter.unusedSimpArgs false
namespace Go.Proofs.Ytmdhioifdnaajaa
open Go.RowKit Go.Shelf

/-- Blocks kept. -/
def Kp (base : Nat) (F : Nat → Prop) (w u : World) : Prop := Below base w u ∧ ∀ k, F k → u.heap[k]? = w.heap[k]?
theorem Kp.trans {base : Nat} {F : Nat → Prop} {a b c : World} (h1 : Kp base F a b) (h2 : Kp base F b c) : Kp base F a c := ⟨h1.1.trans h2.1, fun k hk => (h2.2 k hk).trans (h1.2 k hk)⟩
/-- The program's book and the document's. -/
def Duo (base : Nat) (F : Nat → Prop) (B R N l1 : Nat) (L1 : Mt.Bk) (l2 : Nat) (L2 : Mt.Bk) (w : World) : Prop :=
  ∃ S S2, IsBook w B S N l1 L1 ∧ IsRB w R S2 l2 L2 ∧ (∀ k, S k → ¬ S2 k) ∧ (∀ k, S k → base ≤ k ∧ ¬ F k) ∧ (∀ k, S2 k → base ≤ k ∧ ¬ F k) ∧ (∀ k, F k → k < w.heap.size) ∧ base ≤ w.heap.size
theorem Duo.prog {base : Nat} {F : Nat → Prop} {B R N l2 : Nat} {L2 : Mt.Bk} {w u : World} {S S2 S' : Nat → Prop} {l1 : Nat} {L1 : Mt.Bk} {N' l1' : Nat} {L1' : Mt.Bk} (h1 : IsBook w B S N l1 L1) (h2 : IsRB w R S2 l2 L2) (hd : ∀ k, S k → ¬ S2 k) (hS : ∀ k, S k → base ≤ k ∧ ¬ F k) (hS2 : ∀ k, S2 k → base ≤ k ∧ ¬ F k) (hF : ∀ k, F k → k < w.heap.size) (hb : base ≤ w.heap.size)
    (h : IsBook u B S' N' l1' L1') (ho : OnlyP S w u) (hs : ∀ k, S' k → S k ∨ w.heap.size ≤ k) : Duo base F B R N' l1' L1' l2 L2 u ∧ Kp base F w u := by
  refine ⟨⟨S', S2, h, h2.other ho (fun k hk hk' => hd k hk' hk), fun k hk hk2 => ?_, fun k hk => ?_, hS2, fun k hk => Nat.lt_of_lt_of_le (hF k hk) ho.size, Nat.le_trans hb ho.size⟩, ho.toBelow (fun k hk => (hS k hk).1) hb, fun k hk => ho.block k (hF k hk) (fun e => (hS k e).2 hk)⟩
  · rcases hs k hk with h9 | h9
    · exact hd k h9 hk2
    · have := h2.lt k hk2; omega
  · rcases hs k hk with h9 | h9
    · exact hS k h9
    · exact ⟨by omega, fun hf => by have := hF k hf; omega⟩
theorem Duo.doc {base : Nat} {F : Nat → Prop} {B R N l1 : Nat} {L1 : Mt.Bk} {w u : World} {S S2 S' : Nat → Prop} {l2 : Nat} {L2 : Mt.Bk} {l2' : Nat} {L2' : Mt.Bk} (h1 : IsBook w B S N l1 L1) (h2 : IsRB w R S2 l2 L2) (hd : ∀ k, S k → ¬ S2 k) (hS : ∀ k, S k → base ≤ k ∧ ¬ F k) (hS2 : ∀ k, S2 k → base ≤ k ∧ ¬ F k) (hF : ∀ k, F k → k < w.heap.size) (hb : base ≤ w.heap.size)
    (h : IsRB u R S' l2' L2') (ho : OnlyP S2 w u) (hs : ∀ k, S' k → S2 k ∨ w.heap.size ≤ k) : Duo base F B R N l1 L1 l2' L2' u ∧ Kp base F w u := by
  refine ⟨⟨S, S', h1.other (fun k hk => ho.block k (h1.lt k hk) (hd k hk)) ho.size, h, fun k hk hk2 => ?_, hS, fun k hk => ?_, fun k hk => Nat.lt_of_lt_of_le (hF k hk) ho.size, Nat.le_trans hb ho.size⟩, ho.toBelow (fun k hk => (hS2 k hk).1) hb, fun k hk => ho.block k (hF k hk) (fun e => (hS2 k e).2 hk)⟩
  · rcases hs k hk2 with h9 | h9
    · exact hd k hk h9
    · have := h1.lt k hk; omega
  · rcases hs k hk with h9 | h9
    · exact hS2 k h9
    · exact ⟨by omega, fun hf => by have := hF k hf; omega⟩
theorem Duo.below {base : Nat} {F G : Nat → Prop} {B R N l1 : Nat} {L1 : Mt.Bk} {l2 : Nat} {L2 : Mt.Bk} {w u : World} (h : Duo base F B R N l1 L1 l2 L2 w) (hb : Below w.heap.size w u) (hG : ∀ k, G k → F k ∨ w.heap.size ≤ k) (hG2 : ∀ k, G k → k < u.heap.size) : Duo base G B R N l1 L1 l2 L2 u := by
  obtain ⟨S, S2, h1, h2, hd, hS, hS2, hF, h0⟩ := h
  refine ⟨S, S2, h1.below hb, h2.other (T := fun _ => False) (belowToP hb) (fun _ _ e => e), hd, fun k hk => ⟨(hS k hk).1, fun hg => ?_⟩, fun k hk => ⟨(hS2 k hk).1, fun hg => ?_⟩, hG2, Nat.le_trans h0 hb.size⟩
  · rcases hG k hg with h9 | h9
    · exact (hS k hk).2 h9
    · have := h1.lt k hk; omega
  · rcases hG k hg with h9 | h9
    · exact (hS2 k hk).2 h9
    · have := h2.lt k hk; omega
/-- A kept block written. -/
theorem Duo.kept {base : Nat} {F : Nat → Prop} {B R N l1 : Nat} {L1 : Mt.Bk} {l2 : Nat} {L2 : Mt.Bk} {w u : World} (h : Duo base F B R N l1 L1 l2 L2 w) (ho : OnlyP F w u) : Duo base F B R N l1 L1 l2 L2 u := by
  obtain ⟨S, S2, h1, h2, hd, hS, hS2, hF, h0⟩ := h
  exact ⟨S, S2, h1.other (fun k hk => ho.block k (h1.lt k hk) (hS k hk).2) ho.size, h2.other ho (fun k hk => (hS2 k hk).2), hd, hS, hS2, fun k hk => Nat.lt_of_lt_of_le (hF k hk) ho.size, Nat.le_trans h0 ho.size⟩
section
variable {base : Nat} {F : Nat → Prop} {B R N l1 : Nat} {L1 : Mt.Bk} {l2 : Nat} {L2 : Mt.Bk} {w : World}
theorem duoTakeP {c ver : Int} (s key : ByteArray) (hc : (Lit.int .i64 c).wf = true) (hN : N ≤ 100000) (h : Duo base F B R N l1 L1 l2 L2 w) :
    Calls Try.prog 6 #[.pointer (some ⟨B, 0, none⟩), .int .i64 c, .string s, .string key, .int .i64 ver] w fun e w' =>
      e = .returned (.tuple #[.int .i64 (Mt.tookB (fun p => decide (ck p.num = s)) (fun p => decide (p.key = key) && decide (p.ver = ver)) c L1).1, .bool (Mt.tookB (fun p => decide (ck p.num = s)) (fun p => decide (p.key = key) && decide (p.ver = ver)) c L1).2]) ∧ Duo base F B R (N + 1) l1 (Mt.takeB (fun p => decide (ck p.num = s)) c L1) l2 L2 w' ∧ Kp base F w w' := by
  obtain ⟨S, S2, h1, h2, hd, hS, hS2, hF, h0⟩ := h
  refine (take26_any s key hc hN h1).mono ?_
  rintro e w' ⟨he, hb, ho⟩
  exact ⟨he, Duo.prog h1 h2 hd hS hS2 hF h0 hb ho (fun k hk => .inl hk)⟩
theorem duoTakeR {c ver : Int} (s key : ByteArray) (hL : L2.length ≤ 100000) (hnum : ∀ q ∈ L2, q.2.num ≤ 1000000) (h : Duo base F B R N l1 L1 l2 L2 w) :
    Calls Try.prog 7 #[.pointer (some ⟨R, 0, none⟩), .int .i64 c, .string s, .string key, .int .i64 ver] w fun e w' =>
      e = .returned (.tuple #[.int .i64 (Mt.tookB (fun p => decide (ck p.num = s)) (fun p => decide (p.key = key) && decide (p.ver = ver)) c L2).1, .bool (Mt.tookB (fun p => decide (ck p.num = s)) (fun p => decide (p.key = key) && decide (p.ver = ver)) c L2).2]) ∧ Duo base F B R N l1 L1 l2 (Mt.takeB (fun p => decide (ck p.num = s)) c L2) w' ∧ Kp base F w w' := by
  obtain ⟨S, S2, h1, h2, hd, hS, hS2, hF, h0⟩ := h
  refine (rtake26_any c ver s key hL hnum h2).mono ?_
  rintro e w' ⟨he, S', hb, ho, hs⟩
  exact ⟨he, Duo.doc h1 h2 hd hS hS2 hF h0 hb ho hs⟩
theorem duoDropP {c : Int} (hc : (Lit.int .i64 c).wf = true) (h : Duo base F B R N l1 L1 l2 L2 w) :
    Calls Try.prog 8 #[.pointer (some ⟨B, 0, none⟩), .int .i64 c] w fun e w' => e = .returned (.tuple #[]) ∧ Duo base F B R N l1 (Mt.dropB c L1) l2 L2 w' ∧ Kp base F w w' := by
  obtain ⟨S, S2, h1, h2, hd, hS, hS2, hF, h0⟩ := h
  refine (drop26_any hc h1).mono ?_
  rintro e w' ⟨he, hb, ho⟩
  exact ⟨he, Duo.prog h1 h2 hd hS hS2 hF h0 hb ho (fun k hk => .inl hk)⟩
theorem duoDropR (c : Int) (hL : L2.length ≤ 100000) (h : Duo base F B R N l1 L1 l2 L2 w) :
    Calls Try.prog 9 #[.pointer (some ⟨R, 0, none⟩), .int .i64 c] w fun e w' => e = .returned (.tuple #[]) ∧ Duo base F B R N l1 L1 l2 (Mt.dropB c L2) w' ∧ Kp base F w w' := by
  obtain ⟨S, S2, h1, h2, hd, hS, hS2, hF, h0⟩ := h
  refine (rdrop26_any c hL h2).mono ?_
  rintro e w' ⟨he, S', hb, ho, hs⟩
  exact ⟨he, Duo.doc h1 h2 hd hS hS2 hF h0 hb ho hs⟩
theorem duoKeepP {c ver at' : Int} (key : ByteArray) (hc : (Lit.int .i64 c).wf = true) (hN : N ≤ 100000) (h : Duo base F B R N l1 L1 l2 L2 w) :
    Calls Try.prog 10 #[.pointer (some ⟨B, 0, none⟩), .int .i64 c, .string key, .int .i64 ver, .int .i64 at'] w fun e w' => e = .returned (.string (ck (l1 + 1))) ∧ Duo base F B R (N + 1) (l1 + 1) (Mt.keepB c ⟨l1 + 1, key, ver, at'⟩ L1) l2 L2 w' ∧ Kp base F w w' := by
  obtain ⟨S, S2, h1, h2, hd, hS, hS2, hF, h0⟩ := h
  refine (keep26_any key hc hN h1).mono ?_
  rintro e w' ⟨he, S', hb, ho, hs⟩
  exact ⟨he, Duo.prog h1 h2 hd hS hS2 hF h0 hb ho hs⟩
theorem duoKeepR (c ver at' : Int) (key : ByteArray) (hL : L2.length ≤ 100000) (hl : l2 ≤ 100000) (h : Duo base F B R N l1 L1 l2 L2 w) :
    Calls Try.prog 11 #[.pointer (some ⟨R, 0, none⟩), .int .i64 c, .string key, .int .i64 ver, .int .i64 at'] w fun e w' => e = .returned (.string (ck (l2 + 1))) ∧ Duo base F B R N l1 L1 (l2 + 1) (Mt.keepB c ⟨l2 + 1, key, ver, at'⟩ L2) w' ∧ Kp base F w w' := by
  obtain ⟨S, S2, h1, h2, hd, hS, hS2, hF, h0⟩ := h
  refine (rkeep26_any c ver at' key hL hl h2).mono ?_
  rintro e w' ⟨he, S', hb, ho, hs⟩
  exact ⟨he, Duo.doc h1 h2 hd hS hS2 hF h0 hb ho hs⟩
theorem duoLen (hN : N ≤ 100000) (h : Duo base F B R N l1 L1 l2 L2 w) :
    Calls Try.prog 12 #[.pointer (some ⟨B, 0, none⟩)] w fun e w' => e = .returned (.int .i64 (L1.length : Int)) ∧ Below w.heap.size w w' := by
  obtain ⟨S, S2, h1, h2, hd, hS, hS2, hF, h0⟩ := h
  exact len26_any hN h1
/-- The document's row, as the law looks at its length. -/
theorem Duo.row (h : Duo base F B R N l1 L1 l2 L2 w) : ∃ a cp, w.heap[R]? = some (.cells #[.int .i64 (l2 : Int), .slice a L2.length cp] 29 (0, 0)) := by
  obtain ⟨S, S2, h1, h2, _⟩ := h
  obtain ⟨a, cp, g, h3, _⟩ := h2.ex
  exact ⟨a, cp, h3⟩
theorem Duo.num (h : Duo base F B R N l1 L1 l2 L2 w) : ∀ q ∈ L1, q.2.num ≤ l1 := by
  obtain ⟨S, S2, h1, _⟩ := h
  exact h1.ok.le
end
end Go.Proofs.Ytmdhioifdnaajaa
