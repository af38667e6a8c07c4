/-
  What Reset and Append come to.
-/
import Derived.Test.YtmahkgkhnpffeaaJrT
namespace Go.Proofs.Ytmahkgkhnpffeaa
open Go.RowKit
section
variable {w u : World} {J B bl bm : Nat} {j : Mt.Jn} {d : Mt.Dk}
theorem reset_nil6 (v : Value) (w : World) : Calls Try.prog 16 #[.pointer none, v] w fun e w' => e = .returned (.int .i64 1) ∧ w = w' := by
  have HA := Lib.hid (ask_nil6 v w)
  go_enter Try.func16, Try.ntmps16
  go_wp2_with fail
  refine (HA.out).mono ?_
  rintro e w1 ⟨rfl, rfl⟩
  go_wp2_with fail
  go_ret
  exact ⟨rfl, rfl⟩
theorem append_nil6 (s : ByteArray) (w : World) : Calls Try.prog 15 #[.pointer none, .string s] w fun e w' => e = .returned (.int .i64 1) ∧ Below w.heap.size w w' := by
  have HA := Lib.hid (fun v u => ask_nil6 v u)
  have HB := Lib.hid ((Below.refl w.heap.size w).alloc (Nat.le_refl _) (.cells #[.string s] 9))
  go_enter Try.func15, Try.ntmps15
  go_wp2_with fail
  refine (HA.out _ _).mono ?_
  rintro e w1 ⟨rfl, rfl⟩
  go_wp2_with fail
  go_ret
  exact ⟨rfl, HB.out⟩
theorem Mt.ask_small {j : Mt.Jn} {bs : List (List UInt8)} (h : Mt.askJ j bs = 0) : ∀ b ∈ bs, b.length ≤ 262144 := by
  unfold Mt.askJ at h
  split at h
  · cases h
  · split at h
    · rename_i h2
      rw [List.all_eq_true] at h2
      intro b hb
      simpa using h2 b hb
    · cases h
theorem reset_any6 (h : JD w J B bl bm j d) {v : Value} {bs : List (List UInt8)} (hv : IsTs w v bs) (hn : bs.length ≤ 8796093022208) :
    Calls Try.prog 16 #[.pointer (some ⟨J, 0, none⟩), v] w fun e w' => e = .returned (.int .i64 (Mt.resetJ d j bs).2.2) ∧ (∃ j', JD w' J B bl bm j' (Mt.resetJ d j bs).1 ∧ LaidJ bs j' (Mt.resetJ d j bs).2.1) ∧ OnlyS [J, B, bl, bm] w w' := by
  have HA := Lib.hid (ask6_any h.jn hv (by omega))
  by_cases ha : Mt.askJ j bs = 0
  · have HR := Lib.hid (show Mt.resetJ d j bs = Mt.layJ d j bs by unfold Mt.resetJ; rw [if_pos ha])
    have HL := Lib.hid (lay_any6 h hv hn (fun b hb => by have := Mt.ask_small ha b hb; omega))
    rw [ha] at HA
    clear h hv hn ha
    go_enter Try.func16, Try.ntmps16
    go_wp2_with fail
    refine (HA.out).mono ?_
    rintro e w1 ⟨rfl, rfl⟩
    go_wp2_with fail
    refine (HL.out).mono ?_
    rintro e w1 ⟨rfl, hd, ho⟩
    go_wp2_with fail
    go_ret
    rw [HR.out]
    exact ⟨rfl, hd, ho⟩
  · have HR := Lib.hid (show Mt.resetJ d j bs = (d, j, Mt.askJ j bs) by unfold Mt.resetJ; rw [if_neg ha])
    have H := Lib.hid h
    generalize Mt.askJ j bs = x at *
    have hd : (x == 0) = false := by simpa using ha
    clear h hv hn ha
    go_enter Try.func16, Try.ntmps16
    go_wp2_with fail
    refine (HA.out).mono ?_
    rintro e w1 ⟨rfl, rfl⟩
    go_wp2_with fail
    go_ret
    rw [HR.out]
    exact ⟨rfl, ⟨j, H.out, rfl⟩, OnlyS.refl _ _⟩
end
end Go.Proofs.Ytmahkgkhnpffeaa
