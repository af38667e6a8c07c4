/-
  The chapter's example: two failures lock, till the lock's time is over.
-/
import Derived.Test.YtcijjblcoelabaaPlK
import Derived.Deep.CutRange
set_option linter.unusedVariables false
set_option linter.unusedSimpArgs false
namespace Go.Proofs.Ytcijjblcoelabaa
open Go.RowKit Go.Shelf

deriving instance DecidableEq for Mt.Ps
theorem OwnSt.raw {base n : Nat} {w : World} {x : Value} {l : List Int} {lk ch : Int} (h : OwnSt base w x ⟨l, lk, ch⟩) (hn : l.length = n) : ∃ a c, x = .agg #[.slice a n c, .int .i64 lk, .int .i64 ch] ∧ IsTm w (.slice a n c) l ∧ ∀ b off, a = some ⟨b, off, none⟩ → base ≤ b := by
  obtain ⟨a, m, c, h1, h2⟩ := h
  simp only at h2
  obtain ⟨rfl⟩ : m = l.length := by
    obtain ⟨_, _, e⟩ := h2.form
    injection e
  subst hn
  exact ⟨a, c, h1, h2.tm, fun b off e => by
    obtain ⟨g, hg, _, h⟩ := h2
    rcases h with ⟨_, h1⟩ | ⟨off2, cap, cur, h1, _⟩
    · injection h1 with e1; rw [e] at e1; cases e1
    · injection h1 with e1
      rw [e] at e1
      injection e1 with e2
      injection e2 with e3
      omega⟩
theorem keep3P {w : World} {b p N : Nat} (hb : N ≤ b) (hp : p < N) (u0 u1 u2 : Value) {v0 v1 v2 v3 : Value} (k : w.cell? ⟨p, 0, none⟩ = some v0 ∧ w.cell? ⟨p, 1, none⟩ = some v1 ∧ w.cell? ⟨p, 2, none⟩ = some v2 ∧ w.cell? ⟨p, 3, none⟩ = some v3) :
    (((w.setCell ⟨b, 0, none⟩ u0).setCell ⟨b, 1, none⟩ u1).setCell ⟨b, 2, none⟩ u2).cell? ⟨p, 0, none⟩ = some v0 ∧ (((w.setCell ⟨b, 0, none⟩ u0).setCell ⟨b, 1, none⟩ u1).setCell ⟨b, 2, none⟩ u2).cell? ⟨p, 1, none⟩ = some v1 ∧ (((w.setCell ⟨b, 0, none⟩ u0).setCell ⟨b, 1, none⟩ u1).setCell ⟨b, 2, none⟩ u2).cell? ⟨p, 2, none⟩ = some v2 ∧ (((w.setCell ⟨b, 0, none⟩ u0).setCell ⟨b, 1, none⟩ u1).setCell ⟨b, 2, none⟩ u2).cell? ⟨p, 3, none⟩ = some v3 := by
  have hne : b ≠ p := by omega
  obtain ⟨k0, k1, k2, k3⟩ := k
  have hk : ∀ (i : Nat) (v : Value), w.cell? ⟨p, i, none⟩ = some v → (((w.setCell ⟨b, 0, none⟩ u0).setCell ⟨b, 1, none⟩ u1).setCell ⟨b, 2, none⟩ u2).cell? ⟨p, i, none⟩ = some v := fun i v h => by
    rw [World.cell?_setCell_far _ _ _ _ hne, World.cell?_setCell_far _ _ _ _ hne, World.cell?_setCell_far _ _ _ _ hne]; exact h
  exact ⟨hk _ _ k0, hk _ _ k1, hk _ _ k2, hk _ _ k3⟩
theorem farNe {a : Option Addr} {N b : Nat} (h : ∀ b2 off, a = some ⟨b2, off, none⟩ → N ≤ b2) (hb : b < N) : ∀ b2 off, a = some ⟨b2, off, none⟩ → b2 ≠ b := fun b2 off e => by have := h b2 off e; omega
theorem IsTm.otherB {w u : World} {a : Option Addr} {n c b : Nat} {l : List Int} (h : IsTm w (.slice a n c) l) (ho : OnlyS [b] w u) (hf : ∀ b2 off, a = some ⟨b2, off, none⟩ → b2 ≠ b) : IsTm u (.slice a n c) l := by
  obtain ⟨a', cap, e, hc, hcell⟩ := h
  refine ⟨a', cap, e, hc, Lib.hid fun j hj => ?_⟩
  obtain ⟨b2, off, e0, h1, h2⟩ := hcell.out j hj
  have ha : a = a' := by injection e
  have hne := hf b2 off (by rw [ha, e0])
  exact ⟨b2, off, e0, Nat.lt_of_lt_of_le h1 ho.size, (ho.cell (p := ⟨b2, off + j, none⟩) h1 (by simpa using hne)).trans h2⟩
theorem IsTm.lt {w : World} {a : Option Addr} {n c : Nat} {l : List Int} (h : IsTm w (.slice a n c) l) (hn : 0 < l.length) : ∀ b2 off, a = some ⟨b2, off, none⟩ → b2 ≠ w.heap.size := by
  obtain ⟨a', cap, e, hc, hcell⟩ := h
  intro b2 off e2
  obtain ⟨b3, off3, e0, h1, h2⟩ := hcell.out 0 hn
  have ha : a = a' := by injection e
  rw [ha, e0] at e2
  injection e2 with e3
  injection e3 with e4
  omega
theorem meetA {N : Nat} {w0 w3 : World} {a : Option Addr} {c : Nat} {lk ch : Int} {l : List Int} {n : Nat} (hs : Below N w0 w3) (hN : N ≤ w0.heap.size) (ht : IsTm w3 (.slice a n c) l) (hn : 0 < l.length) :
    (w3.alloc (.cells #[.slice a n c, .int .i64 lk, .int .i64 ch] 26)).heap[w3.heap.size]? = some (.cells #[.slice a n c, .int .i64 lk, .int .i64 ch] 26) ∧ IsTm (w3.alloc (.cells #[.slice a n c, .int .i64 lk, .int .i64 ch] 26)) (.slice a n c) l ∧ N ≤ w3.heap.size ∧ (∀ b2 off, a = some ⟨b2, off, none⟩ → b2 ≠ w3.heap.size) ∧ Below N w0 (w3.alloc (.cells #[.slice a n c, .int .i64 lk, .int .i64 ch] 26)) :=
  ⟨heap_alloc_new _ _, ht.below ((Below.refl _ w3).alloc (Nat.le_refl _) _), Nat.le_trans hN hs.size, ht.lt hn, hs.alloc (Nat.le_trans hN hs.size) _⟩
theorem meetS {N b : Nat} {w0 w3 : World} {a : Option Addr} {c : Nat} {lk ch : Int} {l : List Int} {n : Nat} {v0 v1 v2 : Value} (hs : Below N w0 w3) (hN : N ≤ w0.heap.size) (ht : IsTm w3 (.slice a n c) l) (hz : w3.heap[b]? = some (.cells #[v0, v1, v2] 26)) (hb : N ≤ b) (hf : ∀ b2 off, a = some ⟨b2, off, none⟩ → b2 ≠ b) :
    (((w3.setCell ⟨b, 0, none⟩ (.slice a n c)).setCell ⟨b, 1, none⟩ (.int .i64 lk)).setCell ⟨b, 2, none⟩ (.int .i64 ch)).heap[b]? = some (.cells #[.slice a n c, .int .i64 lk, .int .i64 ch] 26) ∧ IsTm (((w3.setCell ⟨b, 0, none⟩ (.slice a n c)).setCell ⟨b, 1, none⟩ (.int .i64 lk)).setCell ⟨b, 2, none⟩ (.int .i64 ch)) (.slice a n c) l ∧ N ≤ b ∧ (∀ b2 off, a = some ⟨b2, off, none⟩ → b2 ≠ b) ∧ Below N w0 (((w3.setCell ⟨b, 0, none⟩ (.slice a n c)).setCell ⟨b, 1, none⟩ (.int .i64 lk)).setCell ⟨b, 2, none⟩ (.int .i64 ch)) :=
  ⟨set3_of hz _ _ _, ht.otherB (only3 _ _ _) hf, hb, hf, hs.trans ((only3 (w := w3) (b := b) _ _ _).toBelow (fun k hk => by simp at hk; omega) (Nat.le_trans hN hs.size))⟩
theorem zAlloc {N : Nat} {w0 u w' : World} {o : Obj} (hs : Below N w0 u) (hN : N ≤ w0.heap.size) (hb : Below (u.alloc o).heap.size (u.alloc o) w') : w'.heap[u.heap.size]? = some o ∧ N ≤ u.heap.size ∧ u.heap.size < (u.alloc o).heap.size ∧ Below N w0 w' := by
  have hsz : (u.alloc o).heap.size = u.heap.size + 1 := by simp
  have h1 : N ≤ u.heap.size := Nat.le_trans hN hs.size
  exact ⟨(hb.block _ (by omega)).trans (heap_alloc_new u o), h1, by omega, (hs.alloc h1 o).trans (hb.mono (by omega))⟩
theorem zAllocD {N : Nat} {w0 u w' : World} {o : Obj} (hs : Below N w0 u) (hN : N ≤ w0.heap.size) (hb : Below ((u.alloc o).drew).heap.size ((u.alloc o).drew) w') : w'.heap[u.heap.size]? = some o ∧ N ≤ u.heap.size ∧ u.heap.size < ((u.alloc o).drew).heap.size ∧ Below N w0 w' := by
  have hsz : ((u.alloc o).drew).heap.size = u.heap.size + 1 := by simp
  have h1 : N ≤ u.heap.size := Nat.le_trans hN hs.size
  exact ⟨(hb.block _ (by omega)).trans (heap_alloc_new u o), h1, by omega, ((hs.alloc h1 o).drew).trans (hb.mono (by omega))⟩
theorem IsTm.empty (u : World) (a : Option Addr) (c : Nat) : IsTm u (.slice a 0 c) [] := ⟨a, c, rfl, by simp, Lib.hid fun j hj => absurd hj (by simp)⟩
theorem ex23_1 : Mt.tryL ⟨2, 10, 5, 0⟩ ⟨[], -1, 0⟩ 1 false = (⟨[1], -1, 0⟩, 1) := by decide +kernel
theorem ex23_2 : Mt.tryL ⟨2, 10, 5, 0⟩ ⟨[1], -1, 0⟩ 3 false = (⟨[], 3, 0⟩, 1) := by decide +kernel
theorem ex23_3 : Mt.tryL ⟨2, 10, 5, 0⟩ ⟨[], 3, 0⟩ 7 true = (⟨[], 3, 0⟩, 2) := by decide +kernel
theorem ex23_4 : Mt.tryL ⟨2, 10, 5, 0⟩ ⟨[], 3, 0⟩ 8 true = (⟨[], -1, 0⟩, 0) := by decide +kernel
theorem ex23_5 : Mt.okPo ⟨2, 10, 5, 0⟩ = true := by decide +kernel
set_option maxRecDepth 100000 in
set_option maxHeartbeats 2000000 in
theorem awake23_any (w : World) : Calls Try.prog 10 #[] w fun e w' => e = .returned (.bool true) ∧ Below w.heap.size w w' := by
  have H1 : Hid (∀ u : World, Calls Try.prog 16 #[.agg #[.int .i64 2, .int .i64 10, .int .i64 5, .int .i64 0], .agg #[.slice none 0 0, .int .i64 (-1), .int .i64 0], .int .i64 1, .bool false] u fun e w' => ∃ a c, e = .returned (.tuple #[.agg #[.slice a 1 c, .int .i64 (-1), .int .i64 0], .int .i64 1]) ∧ IsTm w' (.slice a 1 c) [1] ∧ (∀ b off, a = some ⟨b, off, none⟩ → u.heap.size ≤ b) ∧ Below u.heap.size u w') := Lib.hid (fun u => by
    have h := try23_any (s := ⟨[], -1, 0⟩) ⟨2, 10, 5, 0⟩ 1 false (IsTm.nil u) (by decide)
    rw [ex23_1] at h
    exact h.mono fun e w' ⟨x, h1, h2, h3⟩ => by
      obtain ⟨a, c, rfl, h4, h5⟩ := h2.raw (n := 1) rfl
      exact ⟨a, c, h1, h4, h5, h3⟩)
  have H2 : Hid (∀ (u : World) (a : Option Addr) (c : Nat), IsTm u (.slice a 1 c) [1] → Calls Try.prog 16 #[.agg #[.int .i64 2, .int .i64 10, .int .i64 5, .int .i64 0], .agg #[.slice a 1 c, .int .i64 (-1), .int .i64 0], .int .i64 3, .bool false] u fun e w' => ∃ a c, e = .returned (.tuple #[.agg #[.slice a 0 c, .int .i64 3, .int .i64 0], .int .i64 1]) ∧ Below u.heap.size u w') := Lib.hid (fun u a c ht => by
    have h := try23_any (s := ⟨[1], -1, 0⟩) ⟨2, 10, 5, 0⟩ 3 false ht (by decide)
    rw [ex23_2] at h
    exact h.mono fun e w' ⟨x, h1, h2, h3⟩ => by
      obtain ⟨a, c, rfl, h4, h5⟩ := h2.raw (n := 0) rfl
      exact ⟨a, c, h1, h3⟩)
  have H3 : Hid (∀ (u : World) (a : Option Addr) (c : Nat), Calls Try.prog 16 #[.agg #[.int .i64 2, .int .i64 10, .int .i64 5, .int .i64 0], .agg #[.slice a 0 c, .int .i64 3, .int .i64 0], .int .i64 7, .bool true] u fun e w' => ∃ a c, e = .returned (.tuple #[.agg #[.slice a 0 c, .int .i64 3, .int .i64 0], .int .i64 2]) ∧ Below u.heap.size u w') := Lib.hid (fun u a c => by
    have h := try23_any (s := ⟨[], 3, 0⟩) ⟨2, 10, 5, 0⟩ 7 true (IsTm.empty u a c) (by decide)
    rw [ex23_3] at h
    exact h.mono fun e w' ⟨x, h1, h2, h3⟩ => by
      obtain ⟨a, c, rfl, h4, h5⟩ := h2.raw (n := 0) rfl
      exact ⟨a, c, h1, h3⟩)
  have H4 : Hid (∀ (u : World) (a : Option Addr) (c : Nat), Calls Try.prog 16 #[.agg #[.int .i64 2, .int .i64 10, .int .i64 5, .int .i64 0], .agg #[.slice a 0 c, .int .i64 3, .int .i64 0], .int .i64 8, .bool true] u fun e w' => ∃ a c, e = .returned (.tuple #[.agg #[.slice a 0 c, .int .i64 (-1), .int .i64 0], .int .i64 0]) ∧ Below u.heap.size u w') := Lib.hid (fun u a c => by
    have h := try23_any (s := ⟨[], 3, 0⟩) ⟨2, 10, 5, 0⟩ 8 true (IsTm.empty u a c) (by decide)
    rw [ex23_4] at h
    exact h.mono fun e w' ⟨x, h1, h2, h3⟩ => by
      obtain ⟨a, c, rfl, h4, h5⟩ := h2.raw (n := 0) rfl
      exact ⟨a, c, h1, h3⟩)
  have HNEW : Hid (∀ u : World, Calls Try.prog 19 #[.int .i64 0] u fun e w' => e = .returned (.agg #[.slice none 0 0, .int .i64 (-1), .int .i64 0]) ∧ Below u.heap.size u w') := Lib.hid (fun u => new23_any 0 u)
  have HCK : Hid (∀ u : World, Calls Try.prog 11 #[.agg #[.int .i64 2, .int .i64 10, .int .i64 5, .int .i64 0]] u fun e w' => e = .returned (.int .i64 0) ∧ Below u.heap.size u w') := Lib.hid (fun u => by
    have h := check23_any ⟨2, 10, 5, 0⟩ u
    rw [ex23_5] at h; exact h)
  obtain ⟨w1, hw1⟩ : ∃ u, w.alloc (.cells #[.int .i64 2, .int .i64 10, .int .i64 5, .int .i64 0] 23) = u := ⟨_, rfl⟩
  have hA : Below w.heap.size w w1 := by rw [← hw1]; exact (Below.refl _ w).alloc (Nat.le_refl _) _
  have hx1 : w1.heap[w.heap.size]? = some (.cells #[.int .i64 2, .int .i64 10, .int .i64 5, .int .i64 0] 23) := by rw [← hw1]; exact heap_alloc_new w _
  have HQ : Hid (∀ u, Below w1.heap.size w1 u → Below w.heap.size w u ∧ (u.cell? ⟨w.heap.size, 0, none⟩ = some (.int .i64 2) ∧ u.cell? ⟨w.heap.size, 1, none⟩ = some (.int .i64 10) ∧ u.cell? ⟨w.heap.size, 2, none⟩ = some (.int .i64 5) ∧ u.cell? ⟨w.heap.size, 3, none⟩ = some (.int .i64 0))) := Lib.hid (fun u hu => ⟨hA.trans (hu.mono hA.size), box4_of ((hu.block _ (lt_of_block hx1)).trans hx1)⟩)
  have HR1 := Lib.hid (Below.refl w1.heap.size w1)
  have HW1 := Lib.hid hw1
  clear hA hx1 hw1
  go_enter Try.func10, Try.ntmps10
  obtain ⟨-, p0, p1, p2, p3⟩ := HQ.out w1 (Below.refl _ _)
  go_upto_region 2 with fail
  rw [HW1.out]
  have HP : Hid (∀ u, Below w1.heap.size w1 u → u.cell? ⟨w.heap.size, 0, none⟩ = some (.int .i64 2) ∧ u.cell? ⟨w.heap.size, 1, none⟩ = some (.int .i64 10) ∧ u.cell? ⟨w.heap.size, 2, none⟩ = some (.int .i64 5) ∧ u.cell? ⟨w.heap.size, 3, none⟩ = some (.int .i64 0)) := Lib.hid (fun u hu => (HQ.out u hu).2)
  have HS : Hid (Below w1.heap.size w1 w1.drew) := Lib.hid (Below.refl _ w1).drew
  have HLT : Hid (w.heap.size < w1.heap.size) := Lib.hid (World.block_lt_of_cell? w1 _ p0)
  have HZ : Hid True := Lib.hid trivial
  have HS0 := Lib.hid (Below.refl w1.heap.size w1)
  go_cut [2, 3] from 10 to 15 (fun t2 t3 wx => t3 = .int .i64 1 ∧ ∃ b a c, t2 = .pointer (some ⟨b, 0, none⟩) ∧ Hid (wx.heap[b]? = some (.cells #[.slice a 1 c, .int .i64 (-1), .int .i64 0] 26) ∧ IsTm wx (.slice a 1 c) [1] ∧ w1.heap.size ≤ b ∧ (∀ b2 off, a = some ⟨b2, off, none⟩ → b2 ≠ b)) ∧ Hid (Below w1.heap.size w1 wx))
  case first =>
    go_region_held3 (fun w' => w'.cell? ⟨w.heap.size, 0, none⟩ = some (.int .i64 2) ∧ w'.cell? ⟨w.heap.size, 1, none⟩ = some (.int .i64 10) ∧ w'.cell? ⟨w.heap.size, 2, none⟩ = some (.int .i64 5) ∧ w'.cell? ⟨w.heap.size, 3, none⟩ = some (.int .i64 0))
      (first
        | with_reducible exact HP.out _ HS.out
        | with_reducible exact HP.out _ ((HS.out).alloc HS.out.size _)
        | exact keep3P HZ.out.2.1 HLT.out _ _ _ (HP.out _ HS.out)
        | exact HP.out _ ((HS.out).alloc HS.out.size _)
        | go_keep)
      (first
        | (go_at_call 19; refine (HNEW.out _).mono ?_; rintro e w2 ⟨rfl, hb⟩; (first | (have h8 := zAllocD HS0.out (Nat.le_refl _) hb; have HZ := Lib.hid (And.intro h8.1 h8.2.1); have HS := Lib.hid h8.2.2.2; clear h8) | (have h8 := zAlloc HS.out (Nat.le_refl _) hb; have HZ := Lib.hid (And.intro h8.1 h8.2.1); have HS := Lib.hid h8.2.2.2; clear h8) | (have HS := Lib.hid (HS.out.trans (hb.mono HS.out.size)))); clear hb)
        | (go_at_call 16; refine (H1.out _).mono ?_; rintro e w3 ⟨a, c, rfl, htm, hfar, hb⟩; (first | (have h8 := zAlloc HS.out (Nat.le_refl _) hb; have HZ := Lib.hid (And.intro h8.1 (And.intro h8.2.1 (farNe hfar h8.2.2.1))); have HS := Lib.hid h8.2.2.2; obtain ⟨⟨y0, y1, y2⟩, f0, f1, f2⟩ := box3F_of h8.1; clear h8) | (have h9 := HZ.out.1; have HZ := Lib.hid (And.intro ((hb.block _ (lt_of_block h9)).trans h9) (And.intro HZ.out.2 (farNe hfar (lt_of_block h9)))); have HS := Lib.hid (HS.out.trans (hb.mono HS.out.size)); have h7 := HZ.out.1; obtain ⟨⟨y0, y1, y2⟩, f0, f1, f2⟩ := box3F_of h7; clear h9 h7) | (have HS := Lib.hid (HS.out.trans (hb.mono HS.out.size)))); have HTM := Lib.hid (And.intro htm hfar); clear hb htm hfar))
    all_goals
      go_wp2_with fail
      go_meet
      first
        | (have h := meetA (lk := -1) (ch := 0) HS.out (Nat.le_refl _) HTM.out.1 (by decide); exact ⟨rfl, _, _, _, rfl, Lib.hid ⟨h.1, h.2.1, h.2.2.1, h.2.2.2.1⟩, Lib.hid h.2.2.2.2⟩)
        | (have h := meetS (lk := -1) (ch := 0) HS.out (Nat.le_refl _) HTM.out.1 HZ.out.1 HZ.out.2.1 HZ.out.2.2; exact ⟨rfl, _, _, _, rfl, Lib.hid ⟨h.1, h.2.1, h.2.2.1, h.2.2.2.1⟩, Lib.hid h.2.2.2.2⟩)
  case rest =>
    obtain ⟨rfl, b, a, c, rfl, HB, HR⟩ := hcut
    clear p0 p1 p2 p3
    obtain ⟨p0, p1, p2, p3⟩ := HP.out _ HR.out
    obtain ⟨y0, y1, y2⟩ := box3_of HB.out.1
    have HC2 := Lib.hid (H2.out wc a c HB.out.2.1)
    go_wp2_with fail
    refine (HC2.out).mono ?_
    rintro e w4 ⟨a2, c2, rfl, hb⟩
    have hrow := (hb.block _ (lt_of_block HB.out.1)).trans HB.out.1
    have hR4 := HR.out.trans (hb.mono HR.out.size)
    have hp4 := keep3P HB.out.2.2.1 HLT.out (.slice a2 0 c2) (.int .i64 3) (.int .i64 0) (HP.out _ hR4)
    have hrow5 := set3_of hrow (.slice a2 0 c2) (.int .i64 3) (.int .i64 0)
    have hR5 : Below w1.heap.size w1 (((w4.setCell ⟨b, 0, none⟩ (.slice a2 0 c2)).setCell ⟨b, 1, none⟩ (.int .i64 3)).setCell ⟨b, 2, none⟩ (.int .i64 0)) := hR4.trans ((only3 (w := w4) (b := b) _ _ _).toBelow (fun k hk => by have := HB.out.2.2.1; simp at hk; omega) hR4.size)
    clear p0 p1 p2 p3 y0 y1 y2 hb
    obtain ⟨⟨y0, y1, y2⟩, f0, f1, f2⟩ := box3F_of hrow
    have H5 := Lib.hid (And.intro hp4 (And.intro hrow5 hR5))
    clear hrow hR4 hp4 hrow5 hR5
    go_upto_region 4 with fail
    generalize (((w4.setCell ⟨b, 0, none⟩ (.slice a2 0 c2)).setCell ⟨b, 1, none⟩ (.int .i64 3)).setCell ⟨b, 2, none⟩ (.int .i64 0)) = w5 at *
    have HX : Hid (∀ u, Below w5.heap.size w5 u → Below w1.heap.size w1 u ∧ (u.cell? ⟨b, 0, none⟩ = some (.slice a2 0 c2) ∧ u.cell? ⟨b, 1, none⟩ = some (.int .i64 3) ∧ u.cell? ⟨b, 2, none⟩ = some (.int .i64 0))) := Lib.hid (fun u hu => ⟨H5.out.2.2.trans (hu.mono H5.out.2.2.size), box3_of ((hu.block _ (lt_of_block H5.out.2.1)).trans H5.out.2.1)⟩)
    have HR5 := Lib.hid (Below.refl w5.heap.size w5)
    clear y0 y1 y2 f0 f1 f2
    obtain ⟨hb1, y0, y1, y2⟩ := HX.out w5 HR5.out
    obtain ⟨p0, p1, p2, p3⟩ := HP.out _ hb1
    have HC3 := Lib.hid (H3.out w5 a2 c2)
    clear hb1
    go_wp2_with fail
    refine (HC3.out).mono ?_
    rintro e w6 ⟨a3, c3, rfl, hb⟩
    have HR6 := Lib.hid (HR5.out.trans hb)
    obtain ⟨w7, hw7⟩ : ∃ u, w6.alloc (.cells #[.slice a3 0 c3, .int .i64 3, .int .i64 0] 26) = u := ⟨_, rfl⟩
    have hA7 : Below w6.heap.size w6 w7 := by rw [← hw7]; exact (Below.refl _ w6).alloc (Nat.le_refl _) _
    have HR7 := Lib.hid (HR6.out.trans (hA7.mono HR6.out.size))
    have HW7 := Lib.hid hw7
    clear hb hA7 p0 p1 p2 p3 y0 y1 y2 hw7
    go_upto_region 5 with fail
    rw [HW7.out]
    obtain ⟨hb1, y0, y1, y2⟩ := HX.out w7 HR7.out
    obtain ⟨p0, p1, p2, p3⟩ := HP.out _ hb1
    have HC4 := Lib.hid (H4.out w7 a2 c2)
    clear hb1
    go_wp2_with fail
    refine (HC4.out).mono ?_
    rintro e w8 ⟨a4, c4, rfl, hb⟩
    have HR8 := Lib.hid (HR7.out.trans (hb.mono HR7.out.size))
    obtain ⟨w9, hw9⟩ : ∃ u, w8.alloc (.cells #[.slice a4 0 c4, .int .i64 (-1), .int .i64 0] 26) = u := ⟨_, rfl⟩
    have hA9 : Below w8.heap.size w8 w9 := by rw [← hw9]; exact (Below.refl _ w8).alloc (Nat.le_refl _) _
    have HR9 := Lib.hid (HR8.out.trans (hA9.mono HR8.out.size))
    have HW9 := Lib.hid hw9
    clear hb hA9 p0 p1 p2 p3 y0 y1 y2 hw9
    go_upto_region 6 with fail
    rw [HW9.out]
    obtain ⟨hb1, y0, y1, y2⟩ := HX.out w9 HR9.out
    obtain ⟨p0, p1, p2, p3⟩ := HP.out _ hb1
    have HB9 := Lib.hid (HQ.out w9 hb1).1
    have HCC := Lib.hid (HCK.out w9)
    clear hb1
    go_wp2_with fail
    refine (HCC.out).mono ?_
    rintro e w10 ⟨rfl, hb⟩
    go_wp2_with fail
    all_goals (go_ret; exact ⟨rfl, HB9.out.trans (hb.mono HB9.out.size)⟩)
end Go.Proofs.Ytcijjblcoelabaa
