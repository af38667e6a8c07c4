/-
  What reading filters within filters comes to: take, list.
-/
import Derived.Test.YtnlbhmjgeedgpaaDoorFtG
import Derived.Deep.LoopGhost
set_option linter.unusedVariables false
set_option linter.unusedSimpArgs false
namespace Go.Proofs.YtnlbhmjgeedgpaaDoor
open Go.RowKit

def Mt.dropIs (c : UInt8) (l : List UInt8) : List UInt8 := if Mt.nextIs c l = true then l.tail else l
theorem Mt.has_next (c : UInt8) (l : List UInt8) : Lib.hasPrefix l [c] = Mt.nextIs c l ∧ Lib.trimPrefix l [c] = Mt.dropIs c l := by
  have h : Lib.hasPrefix l [c] = Mt.nextIs c l := by
    unfold Lib.hasPrefix
    match l with
    | [] => rfl
    | x :: r =>
      simp only [Mt.nextIs]
      rw [Bool.eq_iff_iff]
      simp
      exact eq_comm
  refine ⟨h, ?_⟩
  unfold Lib.trimPrefix Mt.dropIs
  rw [h]
  split
  · simp [List.drop_one]
  · rfl
/-- Where a reader stands. -/
def IsRd (w : World) (B : Nat) (l : List UInt8) (n : Nat) : Prop := w.heap[B]? = some (.cells #[.string (Mt.str l), .int .i64 (n : Int)] 46)
theorem take10_any (c : UInt8) (l : List UInt8) (n : Nat) (w : World) (B : Nat) (hB : IsRd w B l n) :
    Calls Tryd.prog 31 #[.pointer (some ⟨B, 0, none⟩), .string ⟨#[c]⟩] w fun e w' => e = .returned (.bool (Mt.nextIs c l)) ∧ OnlyS [B] w w' ∧ IsRd w' B (Mt.dropIs c l) n := by
  have HC := Lib.hid (ft_cutp (Mt.str l) ⟨#[c]⟩ w)
  have hc : (⟨#[c]⟩ : ByteArray).data.toList = [c] := rfl
  generalize (⟨#[c]⟩ : ByteArray) = t at HC hc ⊢
  rw [Mt.str_data, hc, (Mt.has_next c l).1, (Mt.has_next c l).2] at HC
  obtain ⟨⟨r0, r1⟩, k0, k1⟩ := box2F hB
  have HB := Lib.hid hB
  generalize Mt.nextIs c l = z at *
  generalize Mt.dropIs c l = x at *
  clear hc hB
  go_enter Tryd.func31, Tryd.ntmps31
  go_wp2_with fail
  refine (HC.out).mono ?_
  rintro e w' ⟨rfl, rfl⟩
  go_wp2_with fail
  have ho := (OnlyS.refl [B] w).setCell (g := B) (i := 0) (by simp) (.string (Mt.str x))
  have hX := heap_setCell_same w B 0 _ 46 (.string (Mt.str x)) HB.out
  generalize w.setCell ⟨B, 0, none⟩ (.string (Mt.str x)) = w2 at *
  go_ret
  exact ⟨rfl, ho, hX⟩
theorem hasPar_any (l : List UInt8) (w : World) : Calls Tryd.prog 59 #[.string (Mt.str l), .string ⟨#[40]⟩] w fun e w' => e = .returned (.bool (Mt.nextIs 40 l)) ∧ w = w' := by
  have h := ft_hasp (Mt.str l) ⟨#[40]⟩ w
  rw [Mt.str_data, show (⟨#[40]⟩ : ByteArray).data.toList = [40] from rfl, (Mt.has_next 40 l).1] at h
  exact h
theorem Mt.listP_cnt {p : Nat → List UInt8 → Mt.PR} (hp : ∀ n l f m x, p n l = .ok (f, m, x) → m ≤ 1000) : ∀ {k n : Nat} {l : List UInt8} {fs : List Mt.Fl} {m : Nat} {x : List UInt8}, n ≤ 1000 → Mt.listP p k n l = .ok (fs, m, x) → m ≤ 1000
  | 0, n, l, fs, m, x, hn, h => by
    simp only [Mt.listP, Except.ok.injEq, Prod.mk.injEq] at h
    obtain ⟨_, rfl, _⟩ := h; exact hn
  | k + 1, n, l, fs, m, x, hn, h => by
    unfold Mt.listP at h
    split at h
    · split at h
      · cases h
      · rename_i f m1 x1 h1
        have := hp _ _ _ _ _ h1
        split at h
        · cases h
        · rename_i fs2 m2 y h2
          have := Mt.listP_cnt hp this h2
          simp only [Except.ok.injEq, Prod.mk.injEq] at h
          obtain ⟨_, rfl, _⟩ := h
          exact this
    · simp only [Except.ok.injEq, Prod.mk.injEq] at h
      obtain ⟨_, rfl, _⟩ := h; exact hn
theorem Mt.innerP_cnt {p : Nat → List UInt8 → Mt.PR} (hp : ∀ n l f m x, p n l = .ok (f, m, x) → m ≤ 1000) {n : Nat} {l : List UInt8} {f : Mt.Fl} {m : Nat} {x : List UInt8} (hn : n ≤ 1000) (h : Mt.innerP p n l = .ok (f, m, x)) : m ≤ 1000 := by
  unfold Mt.innerP at h
  split at h
  · unfold Mt.kidsP at h
    split at h
    · cases h
    · rename_i fs m1 x1 h1
      have := Mt.listP_cnt hp hn h1
      simp only [Except.ok.injEq, Prod.mk.injEq] at h
      obtain ⟨_, rfl, _⟩ := h; exact this
  · split at h
    · unfold Mt.kidsP at h
      split at h
      · cases h
      · rename_i fs m1 x1 h1
        have := Mt.listP_cnt hp hn h1
        simp only [Except.ok.injEq, Prod.mk.injEq] at h
        obtain ⟨_, rfl, _⟩ := h; exact this
    · split at h
      · split at h
        · cases h
        · rename_i f1 m1 x1 h1
          have := hp _ _ _ _ _ h1
          simp only [Except.ok.injEq, Prod.mk.injEq] at h
          obtain ⟨_, rfl, _⟩ := h; exact this
      · split at h
        · cases h
        · simp only [Except.ok.injEq, Prod.mk.injEq] at h
          obtain ⟨_, rfl, _⟩ := h; exact hn
theorem Mt.filtP_cnt : ∀ (g n : Nat) (l : List UInt8) (f : Mt.Fl) (m : Nat) (x : List UInt8), Mt.filtP g n l = .ok (f, m, x) → m ≤ 1000
  | 0, n, l, f, m, x, h => by unfold Mt.filtP at h; split at h <;> cases h
  | g + 1, n, l, f, m, x, h => by
    unfold Mt.filtP at h
    split at h
    · split at h
      · cases h
      · unfold Mt.endP at h
        split at h
        · cases h
        · rename_i f1 m1 x1 h1
          have := Mt.innerP_cnt (Mt.filtP_cnt g) (by omega) h1
          split at h
          · simp only [Except.ok.injEq, Prod.mk.injEq] at h
            obtain ⟨_, rfl, _⟩ := h; exact this
          · cases h
    · cases h
/-- What a filter's reading comes to, at one depth. -/
def ReadsF (d g : Nat) : Prop := ∀ (l : List UInt8) (n : Nat) (w : World) (B : Nat), l.length ≤ 4096 → n ≤ 1000 → IsRd w B l n → Calls Tryd.prog 20 #[.pointer (some ⟨B, 0, none⟩), .int .i64 (d : Int)] w (FiltP w B g (Mt.filtP g n l))
def Mt.endK (kind : Int) : Mt.PS → Mt.PR
  | .error e => .error e
  | .ok (fs, m, x) => .ok (.mk kind [] [] [] fs, m, x)
theorem Mt.kidsP_eq (p : Nat → List UInt8 → Mt.PR) (kind : Int) (n : Nat) (l : List UInt8) : Mt.kidsP p kind n l = Mt.endK kind (Mt.ontoF [] (Mt.listP p l.length n l)) := by
  rw [Mt.ontoF_nil]; unfold Mt.kidsP Mt.endK; cases Mt.listP p l.length n l <;> rfl
/-- Where the reading of kids stands. -/
structure ListS (w0 : World) (B b8 base g : Nat) (kind : Int) (R : Mt.PR) (x : List UInt8) (a : Option Addr) (c k : Nat) (wr : World) : Prop where
  len : x.length ≤ 4096
  only : OnlyS [B] w0 wr
  rd : ∃ m, m ≤ 1000 ∧ IsRd wr B x m ∧ ∃ ls : List Mt.Fl, ls.length = k ∧ k + x.length ≤ 4096 ∧ Mt.endK kind (Mt.ontoF ls (Mt.listP (Mt.filtP g) x.length m x)) = R ∧ ∃ gk xs, base ≤ gk ∧ gk < wr.heap.size + 1 ∧ IsRw 25 5 wr gk (.slice a k c) k xs ∧ AreFls wr (fun b => base ≤ b ∧ b ≠ gk) g xs ls
  bw : base ≤ wr.heap.size
  box : wr.heap[b8]? = some (.cells #[.int .i64 kind, .string ⟨#[]⟩, .string ⟨#[]⟩, .slice none 0 0, .slice a k c] 25)
end Go.Proofs.YtnlbhmjgeedgpaaDoor
