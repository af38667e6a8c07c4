/-
  Some texts of one proof, one behind the other.
-/
import Derived.LoopTactic
import Derived.Test.YtnioagojiipjlaaGreatPk18
import Derived.Test.YtnioagojiipjlaaGreatPk20
import Derived.Test.YtnioagojiipjlaaGreatPk21
set_option linter.unusedVariables false
set_option linter.unusedSimpArgs false

/-
  The document's journal in memory, beside its disk; size and Left.
-/
namespace Go.Proofs.YtnioagojiipjlaaGreat
open Go.RowKit Go.Maps
def rjnV (R : Nat) (j : Mt.Jn) (sl : Int) : Array Value := #[.pointer (some ⟨R, 0, none⟩), .int .i64 (j.gen : Int), .int .i64 (j.half : Int), .int .i64 sl, .int .i64 (j.used : Int), .int .i64 (j.count : Int), .bool j.closed]
/-- The document's journal: its block. -/
def IsQ (w : World) (Q R : Nat) (j : Mt.Jn) (sl : Int) : Prop := w.heap[Q]? = some (.cells (rjnV R j sl) 80 (0, 0))
/-- What a call of the document's journal leaves as it was. -/
structure FrQ (g : Rg) (Q : Nat) (w w' : World) : Prop where
  os : w'.os = w.os
  tape : w'.tape = w.tape
  output : w'.output = w.output
  size : w.heap.size ≤ w'.heap.size
  block : ∀ k, (k < g.D ∨ g.P k) → k < w.heap.size → k ≠ g.R → k ≠ g.bl → k ≠ g.bw → k ≠ Q → w'.heap[k]? = w.heap[k]?
theorem FrQ.refl (g : Rg) (Q : Nat) (w : World) : FrQ g Q w w := ⟨rfl, rfl, rfl, Nat.le_refl _, fun _ _ _ _ _ _ _ => rfl⟩
theorem FrQ.trans {g : Rg} {Q : Nat} {a b c : World} (h1 : FrQ g Q a b) (h2 : FrQ g Q b c) : FrQ g Q a c :=
  ⟨h2.os.trans h1.os, h2.tape.trans h1.tape, h2.output.trans h1.output, Nat.le_trans h1.size h2.size, fun k z a b c d e => (h2.block k z (Nat.lt_of_lt_of_le a h1.size) b c d e).trans (h1.block k z a b c d e)⟩
theorem Fr.toQ {g : Rg} {a b : World} (h : Fr g a b) (Q : Nat) : FrQ g Q a b := ⟨h.os, h.tape, h.output, h.size, fun k z a b c d _ => h.block k z a b c d⟩
theorem FrQ.below {g : Rg} {Q : Nat} {a b c : World} (h : FrQ g Q a b) (h2 : Below b.heap.size b c) : FrQ g Q a c :=
  h.trans ⟨h2.os, h2.tape, h2.output, h2.size, fun k _ hk _ _ _ _ => h2.block k hk⟩
theorem FrQ.set {g : Rg} {Q : Nat} {a b : World} (h : FrQ g Q a b) (i : Nat) (v : Value) : FrQ g Q a (b.setCell ⟨Q, i, none⟩ v) := by
  have hb : Below 0 b (b.setCell ⟨Q, i, none⟩ v) := Below.setCell (Below.refl 0 b) (Nat.zero_le _) v
  exact ⟨hb.os.trans h.os, hb.tape.trans h.tape, hb.output.trans h.output, Nat.le_trans h.size hb.size, fun k h0 h1 h2 h3 h4 h5 => by
    rw [heap_setCell_other _ _ _ _ h5]; exact h.block k h0 h1 h2 h3 h4 h5⟩
/-- What is kept is written: the disk stays. -/
theorem IsR.setP {w : World} {g : Rg} {t : Nat} {d : Mt.Dk} (h : IsR w g t d) {Q : Nat} (hQ : g.P Q) (h1 : Q ≠ g.R) (h2 : Q ≠ g.bl) (h3 : Q ≠ g.bw) (i : Nat) (v : Value) : IsR (w.setCell ⟨Q, i, none⟩ v) g t d := by
  obtain ⟨lim, most, tv, tn, tcs, h, ht⟩ := h
  have hk : ∀ k, k ≠ Q → (w.setCell ⟨Q, i, none⟩ v).heap[k]? = w.heap[k]? := fun k hk => heap_setCell_other _ _ _ _ hk
  refine ⟨lim, most, tv, tn, tcs, ⟨h.ok, by rw [hk _ (Ne.symm h1)]; exact h.row, fun hn => ?_, fun hn => ?_, ?_, h.ltR, h.apart, Nat.le_trans h.size (setCell_size _ _ _), h.room, h.most, h.prot, fun b hb => Nat.lt_of_lt_of_le (h.ltP b hb) (setCell_size _ _ _)⟩, ht⟩
  · obtain ⟨cs, e1, e2⟩ := h.lasts hn
    exact ⟨cs, by rw [hk _ (Ne.symm h2)]; exact e1, e2⟩
  · obtain ⟨cs, e1, e2⟩ := h.waits hn
    exact ⟨cs, by rw [hk _ (Ne.symm h3)]; exact e1, e2⟩
  · have ho := h.tears
    refine ⟨ho.1, ?_⟩
    rcases ho.2 with h0 | ⟨gg, cap, cur, e1, e2, e3, e4⟩
    · exact .inl h0
    · have hne : gg ≠ Q := by
        intro e
        subst e
        exact h.prot gg (by rw [e1]; rfl) hQ
      exact .inr ⟨gg, cap, cur, e1, e2, by rw [hk _ hne]; exact e3, e4⟩
/-- One block more is kept: one that is new. -/
def Rg.more (g : Rg) (b : Nat) : Rg := ⟨g.R, g.bl, g.bw, g.D, g.cl, g.cw, fun k => g.P k ∨ k = b⟩
theorem IsR.more {w u : World} {g : Rg} {t : Nat} {d : Mt.Dk} (h : IsR w g t d) (hb : Below w.heap.size w u) {b : Nat} (h1 : w.heap.size ≤ b) (h2 : b < u.heap.size) : IsR u (g.more b) t d := by
  have h' := h.below hb
  obtain ⟨lim, most, tv, tn, tcs, h, ht⟩ := h
  have ho := h.tears
  have hu := h.below hb
  refine ⟨lim, most, tv, tn, tcs, ⟨hu.ok, hu.row, hu.lasts, hu.waits, hu.tears, hu.ltR, hu.apart, hu.size, hu.room, hu.most, fun k e hk => ?_, fun k hk => ?_⟩, ht⟩
  · rcases hk with hk | hk
    · exact h.prot k e hk
    · have := (ho.lt k e).2
      omega
  · rcases hk with hk | hk
    · exact hu.ltP k hk
    · omega
/-- Fewer blocks are kept. -/
theorem IsR.less {w : World} {g g' : Rg} {t : Nat} {d : Mt.Dk} (h : IsR w g t d) (e : g' = ⟨g.R, g.bl, g.bw, g.D, g.cl, g.cw, g'.P⟩) (hp : ∀ k, g'.P k → g.P k) : IsR w g' t d := by
  obtain ⟨lim, most, tv, tn, tcs, h, ht⟩ := h
  obtain ⟨R, bl, bw, D, cl, cw, P⟩ := g'
  simp only [Rg.mk.injEq, and_true] at e
  obtain ⟨rfl, rfl, rfl, rfl, rfl, rfl⟩ := e
  exact ⟨lim, most, tv, tn, tcs, ⟨h.ok, h.row, h.lasts, h.waits, h.tears, h.ltR, h.apart, h.size, h.room, h.most, fun k e hk => h.prot k e (hp k hk), fun k hk => h.ltP k (hp k hk)⟩, ht⟩
theorem FrQ.less {g : Rg} {Q b : Nat} {w u : World} (h : FrQ (g.more b) Q w u) : FrQ g Q w u :=
  ⟨h.os, h.tape, h.output, h.size, fun k hk a1 a2 a3 a4 a5 => h.block k (hk.imp id .inl) a1 a2 a3 a4 a5⟩
/-- The document's journal, with its disk. -/
structure QD (w : World) (Q : Nat) (g : Rg) (t : Nat) (j : Mt.Jn) (sl : Int) (d : Mt.Dk) : Prop where
  jn : IsQ w Q g.R j sl
  dk : IsR w g t d
  kept : g.P Q
  ne : Q ≠ g.R ∧ Q ≠ g.bl ∧ Q ≠ g.bw
  four : 4 ≤ d.lasts.length
  half : j.half ≤ 1
  head : j.head ≤ 1
  gen : j.gen ≤ 4294967296
  used : j.used ≤ 8192
  count : j.count ≤ 8192
  slot : (sl = 0 ∧ j.head = 0) ∨ (sl ≠ 0 ∧ j.head = 1)
section
variable {w u : World} {Q : Nat} {g : Rg} {t t' : Nat} {j : Mt.Jn} {sl : Int} {d : Mt.Dk}
theorem IsQ.below {R : Nat} (h : IsQ w Q R j sl) (hb : Below w.heap.size w u) : IsQ u Q R j sl := (hb.block Q (lt_of_block h)).trans h
theorem QD.below (h : QD w Q g t j sl d) (hb : Below w.heap.size w u) : QD u Q g t j sl d := ⟨h.jn.below hb, h.dk.below hb, h.kept, h.ne, h.four, h.half, h.head, h.gen, h.used, h.count, h.slot⟩
theorem QD.mono (h : QD w Q g t j sl d) (ht : t ≤ t') : QD w Q g t' j sl d := ⟨h.jn, h.dk.mono ht, h.kept, h.ne, h.four, h.half, h.head, h.gen, h.used, h.count, h.slot⟩
/-- The disk was written. -/
theorem QD.disk (h : QD w Q g t j sl d) {e : Mt.Dk} (hd : IsR u g t' e) (ho : Fr g w u) (hl : e.lasts.length = d.lasts.length) : QD u Q g t' j sl e :=
  ⟨(ho.block Q (.inr h.kept) (lt_of_block h.jn) h.ne.1 h.ne.2.1 h.ne.2.2).trans h.jn, hd, h.kept, h.ne, by rw [hl]; exact h.four, h.half, h.head, h.gen, h.used, h.count, h.slot⟩
/-- The journal was written. -/
theorem QD.set (h : QD w Q g t j sl d) (i : Nat) (v : Value) {n : Mt.Jn} {sl' : Int} (hc : (rjnV g.R j sl).setIfInBounds i v = rjnV g.R n sl') (h1 : n.half ≤ 1) (h2 : n.head ≤ 1) (h3 : n.gen ≤ 4294967296) (h4 : n.used ≤ 8192) (h5 : n.count ≤ 8192) (h6 : (sl' = 0 ∧ n.head = 0) ∨ (sl' ≠ 0 ∧ n.head = 1)) : QD (w.setCell ⟨Q, i, none⟩ v) Q g t n sl' d := by
  refine ⟨?_, h.dk.setP h.kept h.ne.1 h.ne.2.1 h.ne.2.2 i v, h.kept, h.ne, h.four, h1, h2, h3, h4, h5, h6⟩
  unfold IsQ
  rw [heap_setCell_same _ _ _ _ _ _ h.jn, hc]
theorem IsQ.cells {R : Nat} (h : IsQ w Q R j sl) : w.cell? ⟨Q, 0, none⟩ = some (.pointer (some ⟨R, 0, none⟩)) ∧ w.cell? ⟨Q, 1, none⟩ = some (.int .i64 (j.gen : Int)) ∧ w.cell? ⟨Q, 2, none⟩ = some (.int .i64 (j.half : Int)) ∧ w.cell? ⟨Q, 3, none⟩ = some (.int .i64 sl) ∧ w.cell? ⟨Q, 4, none⟩ = some (.int .i64 (j.used : Int)) ∧ w.cell? ⟨Q, 5, none⟩ = some (.int .i64 (j.count : Int)) ∧ w.cell? ⟨Q, 6, none⟩ = some (.bool j.closed) := by
  unfold IsQ rjnV at h
  simp [World.cell?, h]
theorem IsR.lasts0 (h : IsR w g t d) : w.cell? ⟨g.R, 0, none⟩ = some (slc d.lasts.length g.bl g.cl) := by
  obtain ⟨lim, most, tv, tn, tcs, h, ht⟩ := h
  have := h.row
  unfold rCells at this
  simp [World.cell?, this]
theorem rsize_any (h : QD w Q g t j sl d) : Calls Tryz.prog 40 #[.pointer (some ⟨Q, 0, none⟩)] w fun e w' => e = .returned (.int .i64 (Mt.hsize d.lasts.length : Int)) ∧ w = w' := by
  obtain ⟨c0, -, -, -, -, -, -⟩ := h.jn.cells
  have r0 := h.dk.lasts0
  have hn : d.lasts.length ≠ 0 := by have := h.four; omega
  rw [slc_pos hn] at r0
  have hl := h.four
  have hm := h.dk.ok.most
  have HZ := Lib.hid (show (Mt.hsize d.lasts.length : Int) = (((d.lasts.length - 2) / 2 : Nat) : Int) from rfl)
  generalize d.lasts.length = N at *
  generalize (Mt.hsize N : Int) = H at *
  have hw1 : wrap64 ((N : Int) - 2) = (N : Int) - 2 := by simp only [wrap64]; omega
  have hl2 : (4 : Int) ≤ (N : Int) := by omega
  have hm2 : (N : Int) ≤ 8192 := by omega
  have HE := Lib.hid (show ((N : Int) - 2) / 2 = (((N - 2) / 2 : Nat) : Int) by omega)
  clear hn h
  go_enter Tryz.func40, Tryz.ntmps40
  go_wp2_with fail
  go_ret
  exact ⟨Mt.ret_int (by rw [HZ.out, ← HE.out]), rfl⟩
end
end Go.Proofs.YtnioagojiipjlaaGreat

/-
  The document's Left.
-/
namespace Go.Proofs.YtnioagojiipjlaaGreat
open Go.RowKit Go.Maps
section
variable {w u : World} {Q : Nat} {g : Rg} {t t' : Nat} {j : Mt.Jn} {sl : Int} {d : Mt.Dk}
theorem QD.drewN (h : QD w Q g t j sl d) (k : Nat) : QD (w.drewN k) Q g t j sl d := h.below ⟨rfl, rfl, rfl, Nat.le_refl _, fun _ _ => rfl⟩
theorem Mt.hsize_le {n : Nat} (h : n ≤ 8192) : Mt.hsize n ≤ 4095 := by unfold Mt.hsize; omega
set_option maxRecDepth 100000 in
set_option maxHeartbeats 1000000 in
theorem rleft_any (h : QD w Q g t j sl d) : Calls Tryz.prog 46 #[.pointer (some ⟨Q, 0, none⟩)] w fun e w' => e = .returned (.int .i64 (j.left d : Int)) ∧ Below w.heap.size w w' := by
  have HSZ : Hid (∀ u, Below w.heap.size w u → Calls Tryz.prog 40 #[.pointer (some ⟨Q, 0, none⟩)] u fun e w' => e = .returned (.int .i64 (Mt.hsize d.lasts.length : Int)) ∧ u = w') := Lib.hid (fun u hu => rsize_any (h.below hu))
  have HRM : Hid (∀ u, Below w.heap.size w u → Calls Tryz.prog 49 #[.pointer (some ⟨g.R, 0, none⟩)] u fun e w' => e = .returned (.int .i64 (d.room : Int)) ∧ u = w') := Lib.hid (fun u hu => eroom_any (h.dk.below hu))
  have HK := Lib.hid ((Below.refl w.heap.size w).drew)
  obtain ⟨c0, -, c2, -, c4, -, -⟩ := h.jn.cells
  have hz := Mt.hsize_le h.dk.ok.most
  have hrm := h.dk.ok.room
  have hmo := h.dk.ok.most
  have hhf := h.half
  have hus := h.used
  have HL := Lib.hid (show j.left d = min (2 + j.half * Mt.hsize d.lasts.length + Mt.hsize d.lasts.length) d.room - (2 + j.half * Mt.hsize d.lasts.length) - j.used from rfl)
  obtain ⟨L, hL⟩ : ∃ L, j.left d = L := ⟨_, rfl⟩
  rw [hL] at HL ⊢
  generalize Mt.hsize d.lasts.length = Z at *
  generalize d.room = M at *
  have hM : M ≤ 8192 := by omega
  generalize j.used = U at *
  generalize hH : j.half = H at *
  obtain ⟨F, hF⟩ : ∃ F, 2 + H * Z = F := ⟨_, rfl⟩
  have hFb : F ≤ 4097 := by
    rcases Nat.eq_zero_or_pos H with e | e
    · subst e; omega
    · obtain rfl : H = 1 := by omega
      omega
  have hFi : (2 : Int) + (H : Int) * (Z : Int) = (F : Int) := by rw [← hF]; push_cast; rfl
  have hmul : (H : Int) * (Z : Int) = ((H * Z : Nat) : Int) := by push_cast; rfl
  rw [hF] at HL
  have hb1 : H * Z ≤ 4095 := by omega
  have w1 : IntKind.i64.wrap ((H : Int) * (Z : Int)) = (H : Int) * (Z : Int) := IntWalk.i64_in _ (by rw [hmul]; omega)
  have w2 : IntKind.i64.wrap ((2 : Int) + (H : Int) * (Z : Int)) = (F : Int) := by rw [hFi]; exact IntWalk.i64_in _ (by omega)
  have HQ := Lib.hid (And.intro hFb (And.intro hz (And.intro hM hus)))
  have HH := Lib.hid h
  clear h hL hH hF hFi hmul hb1 hrm hmo hhf
  go_enter Tryz.func46, Tryz.ntmps46
  go_upto_region 1 with fail
  go_region_held3 (fun w' => w'.cell? ⟨Q, 2, none⟩ = some (.int .i64 (H : Int)))
    (first
      | go_keep)
    (first
      | (go_at_call 40; (with_reducible refine (HSZ.out _ HK.out).mono ?_); rintro e w2 ⟨rfl, rfl⟩))
  all_goals
    clear w1 w2
    have k4 : w.drew.cell? ⟨Q, 4, none⟩ = some (.int .i64 (U : Int)) := c4
    have k0 : w.drew.cell? ⟨Q, 0, none⟩ = some (.pointer (some ⟨g.R, 0, none⟩)) := c0
    obtain ⟨S, hS⟩ : ∃ S, F + U = S := ⟨_, rfl⟩
    obtain ⟨T, hT⟩ : ∃ T, F + Z = T := ⟨_, rfl⟩
    have HQ2 : Hid (S ≤ 13000 ∧ T ≤ 9000 ∧ M ≤ 8192 ∧ L = min T M - S) := Lib.hid (by have h1 := HQ.out; have h2 := HL.out; omega)
    have hfu : wrap64 ((F : Int) + (U : Int)) = (S : Int) := by have := HQ.out; simp only [wrap64]; omega
    have hfz : wrap64 ((F : Int) + (Z : Int)) = (T : Int) := by have := HQ.out; simp only [wrap64]; omega
    have HFZ := Lib.hid hfz
    clear c0 c2 c4 hS hT hfz hz hM hFb hus
    go_wp2_with fail
    have HFU := Lib.hid hfu
    clear hfu
    go_loop [4, 5] (fun nv iv => ∃ k : Nat, k ≤ L ∧ nv = .int .i64 (k : Int) ∧ iv = .int .i64 ((S : Int) + (k : Int))) (fun nv _ => L - (intOf nv).toNat)
    case atStart => exact ⟨0, Nat.zero_le _, rfl, by simp [HFU.out]⟩
    case round =>
      obtain ⟨k, hk, rfl, rfl⟩ := hrel
      have hq := HQ2.out
      have hfz := HFZ.out
      by_cases hlt : k < L
      · have d1 : decide ((S : Int) + (k : Int) < (T : Int)) = true := decide_eq_true (by clear hfz; omega)
        have d2 : decide ((S : Int) + (k : Int) < (M : Int)) = true := decide_eq_true (by clear hfz; omega)
        have d3 : decide (S + k < T) = true := decide_eq_true (by clear hfz; omega)
        have d4 : decide (S + k < M) = true := decide_eq_true (by clear hfz; omega)
        have e1 : wrap64 ((S : Int) + (k : Int) + 1) = (S : Int) + ((k + 1 : Nat) : Int) := by clear hfz; simp only [wrap64]; omega
        have e2 : (k : Int) ≤ 9000 := by clear hfz; omega
        have E1 := Lib.hid e1
        have hs13 : (S : Int) ≤ 13000 := by clear hfz; omega
        clear hq e1
        go_wp2_with fail
        refine (HSZ.out _ HK.out).mono ?_
        rintro e w2 ⟨rfl, rfl⟩
        go_wp2_with fail
        refine (HRM.out _ HK.out).mono ?_
        rintro e w2 ⟨rfl, rfl⟩
        go_wp2_with fail
        go_round
        case rel => exact ⟨k + 1, by omega, by go_num, by first | go_num | (rw [E1.out])⟩
        case measure => simp [intOf]; omega
      · obtain rfl : k = L := by omega
        by_cases h1 : S + k < T
        · have d1 : decide ((S : Int) + (k : Int) < (T : Int)) = true := decide_eq_true (by clear hfz; omega)
          have d2 : decide ((S : Int) + (k : Int) < (M : Int)) = false := decide_eq_false (by clear hfz; omega)
          have d3 : decide (S + k < T) = true := decide_eq_true (by clear hfz; omega)
          have d4 : decide (S + k < M) = false := decide_eq_false (by clear hfz; omega)
          clear hq hlt h1
          go_wp2_with fail
          refine (HSZ.out _ HK.out).mono ?_
          rintro e w2 ⟨rfl, rfl⟩
          go_wp2_with fail
          refine (HRM.out _ HK.out).mono ?_
          rintro e w2 ⟨rfl, rfl⟩
          go_wp2_with fail
          go_ret
          exact ⟨rfl, HK.out⟩
        · have d1 : decide ((S : Int) + (k : Int) < (T : Int)) = false := decide_eq_false (by clear hfz; omega)
          have d3 : decide (S + k < T) = false := decide_eq_false (by clear hfz; omega)
          clear hq hlt h1
          go_wp2_with fail
          refine (HSZ.out _ HK.out).mono ?_
          rintro e w2 ⟨rfl, rfl⟩
          go_wp2_with fail
          go_ret
          exact ⟨rfl, HK.out⟩
end
end Go.Proofs.YtnioagojiipjlaaGreat
