/-
  Some texts of one proof, one behind the other.
-/
import Derived.LoopTactic
import Derived.BigRegion
import Derived.Test.YtnioagojiipjlaaGreatPk12
import Derived.Test.YtnioagojiipjlaaGreatPk15

/-
  The document's journal in memory, beside its disk; size and Left.
-/
namespace Go.Proofs.YtnioagojiipjlaaGreat
open Go.RowKit Go.Maps
def rjnV (R : Nat) (j : Mt.Jn) (sl : Int) : Array Value := #[.pointer (some ⟨R, 0, none⟩), .int .i64 (j.gen : Int), .int .i64 (j.half : Int), .int .i64 sl, .int .i64 (j.used : Int), .int .i64 (j.count : Int), .bool j.closed]
/-- The document's journal: its block. -/
def IsQ (w : World) (Q R : Nat) (j : Mt.Jn) (sl : Int) : Prop := w.heap[Q]? = some (.cells (rjnV R j sl) 80 (0, 0))
/-- What a call of the document's journal leaves as it was. -/
structure FrQ (g : Rg) (Q : Nat) (w w' : World) : Prop where
  os : w'.os = w.os
  tape : w'.tape = w.tape
  output : w'.output = w.output
  size : w.heap.size ≤ w'.heap.size
  block : ∀ k, (k < g.D ∨ g.P k) → k < w.heap.size → k ≠ g.R → k ≠ g.bl → k ≠ g.bw → k ≠ Q → w'.heap[k]? = w.heap[k]?
theorem FrQ.refl (g : Rg) (Q : Nat) (w : World) : FrQ g Q w w := ⟨rfl, rfl, rfl, Nat.le_refl _, fun _ _ _ _ _ _ _ => rfl⟩
theorem FrQ.trans {g : Rg} {Q : Nat} {a b c : World} (h1 : FrQ g Q a b) (h2 : FrQ g Q b c) : FrQ g Q a c :=
  ⟨h2.os.trans h1.os, h2.tape.trans h1.tape, h2.output.trans h1.output, Nat.le_trans h1.size h2.size, fun k z a b c d e => (h2.block k z (Nat.lt_of_lt_of_le a h1.size) b c d e).trans (h1.block k z a b c d e)⟩
theorem Fr.toQ {g : Rg} {a b : World} (h : Fr g a b) (Q : Nat) : FrQ g Q a b := ⟨h.os, h.tape, h.output, h.size, fun k z a b c d _ => h.block k z a b c d⟩
theorem FrQ.below {g : Rg} {Q : Nat} {a b c : World} (h : FrQ g Q a b) (h2 : Below b.heap.size b c) : FrQ g Q a c :=
  h.trans ⟨h2.os, h2.tape, h2.output, h2.size, fun k _ hk _ _ _ _ => h2.block k hk⟩
theorem FrQ.set {g : Rg} {Q : Nat} {a b : World} (h : FrQ g Q a b) (i : Nat) (v : Value) : FrQ g Q a (b.setCell ⟨Q, i, none⟩ v) := by
  have hb : Below 0 b (b.setCell ⟨Q, i, none⟩ v) := Below.setCell (Below.refl 0 b) (Nat.zero_le _) v
  exact ⟨hb.os.trans h.os, hb.tape.trans h.tape, hb.output.trans h.output, Nat.le_trans h.size hb.size, fun k h0 h1 h2 h3 h4 h5 => by
    rw [heap_setCell_other _ _ _ _ h5]; exact h.block k h0 h1 h2 h3 h4 h5⟩
/-- What is kept is written: the disk stays. -/
theorem IsR.setP {w : World} {g : Rg} {t : Nat} {d : Mt.Dk} (h : IsR w g t d) {Q : Nat} (hQ : g.P Q) (h1 : Q ≠ g.R) (h2 : Q ≠ g.bl) (h3 : Q ≠ g.bw) (i : Nat) (v : Value) : IsR (w.setCell ⟨Q, i, none⟩ v) g t d := by
  obtain ⟨lim, most, tv, tn, tcs, h, ht⟩ := h
  have hk : ∀ k, k ≠ Q → (w.setCell ⟨Q, i, none⟩ v).heap[k]? = w.heap[k]? := fun k hk => heap_setCell_other _ _ _ _ hk
  refine ⟨lim, most, tv, tn, tcs, ⟨h.ok, by rw [hk _ (Ne.symm h1)]; exact h.row, fun hn => ?_, fun hn => ?_, ?_, h.ltR, h.apart, Nat.le_trans h.size (setCell_size _ _ _), h.room, h.most, h.prot, fun b hb => Nat.lt_of_lt_of_le (h.ltP b hb) (setCell_size _ _ _)⟩, ht⟩
  · obtain ⟨cs, e1, e2⟩ := h.lasts hn
    exact ⟨cs, by rw [hk _ (Ne.symm h2)]; exact e1, e2⟩
  · obtain ⟨cs, e1, e2⟩ := h.waits hn
    exact ⟨cs, by rw [hk _ (Ne.symm h3)]; exact e1, e2⟩
  · have ho := h.tears
    refine ⟨ho.1, ?_⟩
    rcases ho.2 with h0 | ⟨gg, cap, cur, e1, e2, e3, e4⟩
    · exact .inl h0
    · have hne : gg ≠ Q := by
        intro e
        subst e
        exact h.prot gg (by rw [e1]; rfl) hQ
      exact .inr ⟨gg, cap, cur, e1, e2, by rw [hk _ hne]; exact e3, e4⟩
/-- One block more is kept: one that is new. -/
def Rg.more (g : Rg) (b : Nat) : Rg := ⟨g.R, g.bl, g.bw, g.D, g.cl, g.cw, fun k => g.P k ∨ k = b⟩
theorem IsR.more {w u : World} {g : Rg} {t : Nat} {d : Mt.Dk} (h : IsR w g t d) (hb : Below w.heap.size w u) {b : Nat} (h1 : w.heap.size ≤ b) (h2 : b < u.heap.size) : IsR u (g.more b) t d := by
  have h' := h.below hb
  obtain ⟨lim, most, tv, tn, tcs, h, ht⟩ := h
  have ho := h.tears
  have hu := h.below hb
  refine ⟨lim, most, tv, tn, tcs, ⟨hu.ok, hu.row, hu.lasts, hu.waits, hu.tears, hu.ltR, hu.apart, hu.size, hu.room, hu.most, fun k e hk => ?_, fun k hk => ?_⟩, ht⟩
  · rcases hk with hk | hk
    · exact h.prot k e hk
    · have := (ho.lt k e).2
      omega
  · rcases hk with hk | hk
    · exact hu.ltP k hk
    · omega
/-- Fewer blocks are kept. -/
theorem IsR.less {w : World} {g g' : Rg} {t : Nat} {d : Mt.Dk} (h : IsR w g t d) (e : g' = ⟨g.R, g.bl, g.bw, g.D, g.cl, g.cw, g'.P⟩) (hp : ∀ k, g'.P k → g.P k) : IsR w g' t d := by
  obtain ⟨lim, most, tv, tn, tcs, h, ht⟩ := h
  obtain ⟨R, bl, bw, D, cl, cw, P⟩ := g'
  simp only [Rg.mk.injEq, and_true] at e
  obtain ⟨rfl, rfl, rfl, rfl, rfl, rfl⟩ := e
  exact ⟨lim, most, tv, tn, tcs, ⟨h.ok, h.row, h.lasts, h.waits, h.tears, h.ltR, h.apart, h.size, h.room, h.most, fun k e hk => h.prot k e (hp k hk), fun k hk => h.ltP k (hp k hk)⟩, ht⟩
theorem FrQ.less {g : Rg} {Q b : Nat} {w u : World} (h : FrQ (g.more b) Q w u) : FrQ g Q w u :=
  ⟨h.os, h.tape, h.output, h.size, fun k hk a1 a2 a3 a4 a5 => h.block k (hk.imp id .inl) a1 a2 a3 a4 a5⟩
/-- The document's journal, with its disk. -/
structure QD (w : World) (Q : Nat) (g : Rg) (t : Nat) (j : Mt.Jn) (sl : Int) (d : Mt.Dk) : Prop where
  jn : IsQ w Q g.R j sl
  dk : IsR w g t d
  kept : g.P Q
  ne : Q ≠ g.R ∧ Q ≠ g.bl ∧ Q ≠ g.bw
  four : 4 ≤ d.lasts.length
  half : j.half ≤ 1
  head : j.head ≤ 1
  gen : j.gen ≤ 4294967296
  used : j.used ≤ 8192
  count : j.count ≤ 8192
  slot : (sl = 0 ∧ j.head = 0) ∨ (sl ≠ 0 ∧ j.head = 1)
section
variable {w u : World} {Q : Nat} {g : Rg} {t t' : Nat} {j : Mt.Jn} {sl : Int} {d : Mt.Dk}
theorem IsQ.below {R : Nat} (h : IsQ w Q R j sl) (hb : Below w.heap.size w u) : IsQ u Q R j sl := (hb.block Q (lt_of_block h)).trans h
theorem QD.below (h : QD w Q g t j sl d) (hb : Below w.heap.size w u) : QD u Q g t j sl d := ⟨h.jn.below hb, h.dk.below hb, h.kept, h.ne, h.four, h.half, h.head, h.gen, h.used, h.count, h.slot⟩
theorem QD.mono (h : QD w Q g t j sl d) (ht : t ≤ t') : QD w Q g t' j sl d := ⟨h.jn, h.dk.mono ht, h.kept, h.ne, h.four, h.half, h.head, h.gen, h.used, h.count, h.slot⟩
/-- The disk was written. -/
theorem QD.disk (h : QD w Q g t j sl d) {e : Mt.Dk} (hd : IsR u g t' e) (ho : Fr g w u) (hl : e.lasts.length = d.lasts.length) : QD u Q g t' j sl e :=
  ⟨(ho.block Q (.inr h.kept) (lt_of_block h.jn) h.ne.1 h.ne.2.1 h.ne.2.2).trans h.jn, hd, h.kept, h.ne, by rw [hl]; exact h.four, h.half, h.head, h.gen, h.used, h.count, h.slot⟩
/-- The journal was written. -/
theorem QD.set (h : QD w Q g t j sl d) (i : Nat) (v : Value) {n : Mt.Jn} {sl' : Int} (hc : (rjnV g.R j sl).setIfInBounds i v = rjnV g.R n sl') (h1 : n.half ≤ 1) (h2 : n.head ≤ 1) (h3 : n.gen ≤ 4294967296) (h4 : n.used ≤ 8192) (h5 : n.count ≤ 8192) (h6 : (sl' = 0 ∧ n.head = 0) ∨ (sl' ≠ 0 ∧ n.head = 1)) : QD (w.setCell ⟨Q, i, none⟩ v) Q g t n sl' d := by
  refine ⟨?_, h.dk.setP h.kept h.ne.1 h.ne.2.1 h.ne.2.2 i v, h.kept, h.ne, h.four, h1, h2, h3, h4, h5, h6⟩
  unfold IsQ
  rw [heap_setCell_same _ _ _ _ _ _ h.jn, hc]
theorem IsQ.cells {R : Nat} (h : IsQ w Q R j sl) : w.cell? ⟨Q, 0, none⟩ = some (.pointer (some ⟨R, 0, none⟩)) ∧ w.cell? ⟨Q, 1, none⟩ = some (.int .i64 (j.gen : Int)) ∧ w.cell? ⟨Q, 2, none⟩ = some (.int .i64 (j.half : Int)) ∧ w.cell? ⟨Q, 3, none⟩ = some (.int .i64 sl) ∧ w.cell? ⟨Q, 4, none⟩ = some (.int .i64 (j.used : Int)) ∧ w.cell? ⟨Q, 5, none⟩ = some (.int .i64 (j.count : Int)) ∧ w.cell? ⟨Q, 6, none⟩ = some (.bool j.closed) := by
  unfold IsQ rjnV at h
  simp [World.cell?, h]
theorem IsR.lasts0 (h : IsR w g t d) : w.cell? ⟨g.R, 0, none⟩ = some (slc d.lasts.length g.bl g.cl) := by
  obtain ⟨lim, most, tv, tn, tcs, h, ht⟩ := h
  have := h.row
  unfold rCells at this
  simp [World.cell?, this]
theorem rsize_any (h : QD w Q g t j sl d) : Calls Tryz.prog 40 #[.pointer (some ⟨Q, 0, none⟩)] w fun e w' => e = .returned (.int .i64 (Mt.hsize d.lasts.length : Int)) ∧ w = w' := by
  obtain ⟨c0, -, -, -, -, -, -⟩ := h.jn.cells
  have r0 := h.dk.lasts0
  have hn : d.lasts.length ≠ 0 := by have := h.four; omega
  rw [slc_pos hn] at r0
  have hl := h.four
  have hm := h.dk.ok.most
  have HZ := Lib.hid (show (Mt.hsize d.lasts.length : Int) = (((d.lasts.length - 2) / 2 : Nat) : Int) from rfl)
  generalize d.lasts.length = N at *
  generalize (Mt.hsize N : Int) = H at *
  have hw1 : wrap64 ((N : Int) - 2) = (N : Int) - 2 := by simp only [wrap64]; omega
  have hl2 : (4 : Int) ≤ (N : Int) := by omega
  have hm2 : (N : Int) ≤ 8192 := by omega
  have HE := Lib.hid (show ((N : Int) - 2) / 2 = (((N - 2) / 2 : Nat) : Int) by omega)
  clear hn h
  go_enter Tryz.func40, Tryz.ntmps40
  go_wp2_with fail
  go_ret
  exact ⟨Mt.ret_int (by rw [HZ.out, ← HE.out]), rfl⟩
end
end Go.Proofs.YtnioagojiipjlaaGreat

/-
  The document's Left.
-/
namespace Go.Proofs.YtnioagojiipjlaaGreat
open Go.RowKit Go.Maps
section
variable {w u : World} {Q : Nat} {g : Rg} {t t' : Nat} {j : Mt.Jn} {sl : Int} {d : Mt.Dk}
theorem QD.drewN (h : QD w Q g t j sl d) (k : Nat) : QD (w.drewN k) Q g t j sl d := h.below ⟨rfl, rfl, rfl, Nat.le_refl _, fun _ _ => rfl⟩
theorem Mt.hsize_le {n : Nat} (h : n ≤ 8192) : Mt.hsize n ≤ 4095 := by unfold Mt.hsize; omega
set_option maxRecDepth 100000 in
set_option maxHeartbeats 1000000 in
theorem rleft_any (h : QD w Q g t j sl d) : Calls Tryz.prog 46 #[.pointer (some ⟨Q, 0, none⟩)] w fun e w' => e = .returned (.int .i64 (j.left d : Int)) ∧ Below w.heap.size w w' := by
  have HSZ : Hid (∀ u, Below w.heap.size w u → Calls Tryz.prog 40 #[.pointer (some ⟨Q, 0, none⟩)] u fun e w' => e = .returned (.int .i64 (Mt.hsize d.lasts.length : Int)) ∧ u = w') := Lib.hid (fun u hu => rsize_any (h.below hu))
  have HRM : Hid (∀ u, Below w.heap.size w u → Calls Tryz.prog 49 #[.pointer (some ⟨g.R, 0, none⟩)] u fun e w' => e = .returned (.int .i64 (d.room : Int)) ∧ u = w') := Lib.hid (fun u hu => eroom_any (h.dk.below hu))
  have HK := Lib.hid ((Below.refl w.heap.size w).drew)
  obtain ⟨c0, -, c2, -, c4, -, -⟩ := h.jn.cells
  have hz := Mt.hsize_le h.dk.ok.most
  have hrm := h.dk.ok.room
  have hmo := h.dk.ok.most
  have hhf := h.half
  have hus := h.used
  have HL := Lib.hid (show j.left d = min (2 + j.half * Mt.hsize d.lasts.length + Mt.hsize d.lasts.length) d.room - (2 + j.half * Mt.hsize d.lasts.length) - j.used from rfl)
  obtain ⟨L, hL⟩ : ∃ L, j.left d = L := ⟨_, rfl⟩
  rw [hL] at HL ⊢
  generalize Mt.hsize d.lasts.length = Z at *
  generalize d.room = M at *
  have hM : M ≤ 8192 := by omega
  generalize j.used = U at *
  generalize hH : j.half = H at *
  obtain ⟨F, hF⟩ : ∃ F, 2 + H * Z = F := ⟨_, rfl⟩
  have hFb : F ≤ 4097 := by
    rcases Nat.eq_zero_or_pos H with e | e
    · subst e; omega
    · obtain rfl : H = 1 := by omega
      omega
  have hFi : (2 : Int) + (H : Int) * (Z : Int) = (F : Int) := by rw [← hF]; push_cast; rfl
  have hmul : (H : Int) * (Z : Int) = ((H * Z : Nat) : Int) := by push_cast; rfl
  rw [hF] at HL
  have hb1 : H * Z ≤ 4095 := by omega
  have w1 : IntKind.i64.wrap ((H : Int) * (Z : Int)) = (H : Int) * (Z : Int) := IntWalk.i64_in _ (by rw [hmul]; omega)
  have w2 : IntKind.i64.wrap ((2 : Int) + (H : Int) * (Z : Int)) = (F : Int) := by rw [hFi]; exact IntWalk.i64_in _ (by omega)
  have HQ := Lib.hid (And.intro hFb (And.intro hz (And.intro hM hus)))
  have HH := Lib.hid h
  clear h hL hH hF hFi hmul hb1 hrm hmo hhf
  go_enter Tryz.func46, Tryz.ntmps46
  go_upto_region 1 with fail
  go_region_held3 (fun w' => w'.cell? ⟨Q, 2, none⟩ = some (.int .i64 (H : Int)))
    (first
      | go_keep)
    (first
      | (go_at_call 40; (with_reducible refine (HSZ.out _ HK.out).mono ?_); rintro e w2 ⟨rfl, rfl⟩))
  all_goals
    clear w1 w2
    have k4 : w.drew.cell? ⟨Q, 4, none⟩ = some (.int .i64 (U : Int)) := c4
    have k0 : w.drew.cell? ⟨Q, 0, none⟩ = some (.pointer (some ⟨g.R, 0, none⟩)) := c0
    obtain ⟨S, hS⟩ : ∃ S, F + U = S := ⟨_, rfl⟩
    obtain ⟨T, hT⟩ : ∃ T, F + Z = T := ⟨_, rfl⟩
    have HQ2 : Hid (S ≤ 13000 ∧ T ≤ 9000 ∧ M ≤ 8192 ∧ L = min T M - S) := Lib.hid (by have h1 := HQ.out; have h2 := HL.out; omega)
    have hfu : wrap64 ((F : Int) + (U : Int)) = (S : Int) := by have := HQ.out; simp only [wrap64]; omega
    have hfz : wrap64 ((F : Int) + (Z : Int)) = (T : Int) := by have := HQ.out; simp only [wrap64]; omega
    have HFZ := Lib.hid hfz
    clear c0 c2 c4 hS hT hfz hz hM hFb hus
    go_wp2_with fail
    have HFU := Lib.hid hfu
    clear hfu
    go_loop [4, 5] (fun nv iv => ∃ k : Nat, k ≤ L ∧ nv = .int .i64 (k : Int) ∧ iv = .int .i64 ((S : Int) + (k : Int))) (fun nv _ => L - (intOf nv).toNat)
    case atStart => exact ⟨0, Nat.zero_le _, rfl, by simp [HFU.out]⟩
    case round =>
      obtain ⟨k, hk, rfl, rfl⟩ := hrel
      have hq := HQ2.out
      have hfz := HFZ.out
      by_cases hlt : k < L
      · have d1 : decide ((S : Int) + (k : Int) < (T : Int)) = true := decide_eq_true (by clear hfz; omega)
        have d2 : decide ((S : Int) + (k : Int) < (M : Int)) = true := decide_eq_true (by clear hfz; omega)
        have d3 : decide (S + k < T) = true := decide_eq_true (by clear hfz; omega)
        have d4 : decide (S + k < M) = true := decide_eq_true (by clear hfz; omega)
        have e1 : wrap64 ((S : Int) + (k : Int) + 1) = (S : Int) + ((k + 1 : Nat) : Int) := by clear hfz; simp only [wrap64]; omega
        have e2 : (k : Int) ≤ 9000 := by clear hfz; omega
        have E1 := Lib.hid e1
        have hs13 : (S : Int) ≤ 13000 := by clear hfz; omega
        clear hq e1
        go_wp2_with fail
        refine (HSZ.out _ HK.out).mono ?_
        rintro e w2 ⟨rfl, rfl⟩
        go_wp2_with fail
        refine (HRM.out _ HK.out).mono ?_
        rintro e w2 ⟨rfl, rfl⟩
        go_wp2_with fail
        go_round
        case rel => exact ⟨k + 1, by omega, by go_num, by first | go_num | (rw [E1.out])⟩
        case measure => simp [intOf]; omega
      · obtain rfl : k = L := by omega
        by_cases h1 : S + k < T
        · have d1 : decide ((S : Int) + (k : Int) < (T : Int)) = true := decide_eq_true (by clear hfz; omega)
          have d2 : decide ((S : Int) + (k : Int) < (M : Int)) = false := decide_eq_false (by clear hfz; omega)
          have d3 : decide (S + k < T) = true := decide_eq_true (by clear hfz; omega)
          have d4 : decide (S + k < M) = false := decide_eq_false (by clear hfz; omega)
          clear hq hlt h1
          go_wp2_with fail
          refine (HSZ.out _ HK.out).mono ?_
          rintro e w2 ⟨rfl, rfl⟩
          go_wp2_with fail
          refine (HRM.out _ HK.out).mono ?_
          rintro e w2 ⟨rfl, rfl⟩
          go_wp2_with fail
          go_ret
          exact ⟨rfl, HK.out⟩
        · have d1 : decide ((S : Int) + (k : Int) < (T : Int)) = false := decide_eq_false (by clear hfz; omega)
          have d3 : decide (S + k < T) = false := decide_eq_false (by clear hfz; omega)
          clear hq hlt h1
          go_wp2_with fail
          refine (HSZ.out _ HK.out).mono ?_
          rintro e w2 ⟨rfl, rfl⟩
          go_wp2_with fail
          go_ret
          exact ⟨rfl, HK.out⟩
end
end Go.Proofs.YtnioagojiipjlaaGreat

/-
  A journal whose memory is kept, or written; what become comes to; sectors written one behind the other.
-/
namespace Go.Proofs.YtnioagojiipjlaaGreat
open Go.RowKit

theorem Mt.lose_len (d : Mt.Dk) (a : Nat) (b c : Int) : (d.lose a b c).lasts.length = d.lasts.length := Mt.loseK_length ..
theorem Mt.count_len (d : Mt.Dk) : d.count.1.lasts.length = d.lasts.length := by
  unfold Mt.Dk.count
  split
  · rfl
  · split
    · exact Mt.lose_len _ _ _ _
    · rfl
theorem Mt.write_len (d : Mt.Dk) (i : Int) (s : List UInt8) : (d.write i s).1.lasts.length = d.lasts.length := by
  unfold Mt.Dk.write
  split
  · split
    · split
      · exact Mt.count_len _
      · rfl
    · rfl
  · rfl
theorem Mt.flush_len (d : Mt.Dk) (h : d.Ok) : d.flush.1.lasts.length = d.lasts.length := by
  unfold Mt.Dk.flush
  split
  · rfl
  · split
    · exact (Mt.over_length _ _ h.count.len).trans (Mt.count_len d)
    · exact Mt.count_len _

/-! ### sectors, one behind the other -/
theorem Mt.wrS_len : ∀ (l : List (List UInt8)) (d : Mt.Dk) (a : Nat), (Mt.wrS d a l).1.lasts.length = d.lasts.length
  | [], _, _ => rfl
  | s :: r, d, a => by
    unfold Mt.wrS
    split
    · rw [Mt.wrS_len r, Mt.write_len]
    · exact Mt.write_len _ _ _
theorem Mt.wrS_snoc : ∀ (l : List (List UInt8)) (s : List UInt8) (d : Mt.Dk) (a : Nat), (Mt.wrS d a l).2 = 0 → Mt.wrS d a (l ++ [s]) = (Mt.wrS d a l).1.write ((a + l.length : Nat) : Int) s
  | [], s, d, a, _ => by
    simp only [List.nil_append, Mt.wrS, List.length_nil, Nat.add_zero]
    split
    · rename_i h; rw [← h]
    · rfl
  | x :: r, s, d, a, h => by
    simp only [List.cons_append, Mt.wrS] at h ⊢
    split at h
    · rename_i hx
      rw [if_pos hx, if_pos hx, Mt.wrS_snoc r s _ _ h, List.length_cons, show a + 1 + r.length = a + (r.length + 1) by omega]
    · rename_i hx; exact absurd h hx
theorem Mt.wrS_stop : ∀ (l m : List (List UInt8)) (d : Mt.Dk) (a : Nat), (Mt.wrS d a l).2 ≠ 0 → Mt.wrS d a (l ++ m) = Mt.wrS d a l
  | [], m, d, a, h => absurd rfl h
  | x :: r, m, d, a, h => by
    simp only [List.cons_append, Mt.wrS] at h ⊢
    split at h
    · rename_i hx; rw [if_pos hx, if_pos hx, Mt.wrS_stop r m _ _ h]
    · rename_i hx; rw [if_neg hx, if_neg hx]
theorem Mt.wrS_succ (l : List (List UInt8)) (d : Mt.Dk) (a k : Nat) (hk : k < l.length) (h : (Mt.wrS d a (l.take k)).2 = 0) : Mt.wrS d a (l.take (k + 1)) = (Mt.wrS d a (l.take k)).1.write ((a + k : Nat) : Int) l[k] := by
  rw [List.take_succ_eq_append_getElem hk, Mt.wrS_snoc _ _ _ _ h, List.length_take, Nat.min_eq_left (by omega)]
theorem Mt.wrS_end (l : List (List UInt8)) (d : Mt.Dk) (a k : Nat) (h : (Mt.wrS d a (l.take k)).2 ≠ 0) : Mt.wrS d a l = Mt.wrS d a (l.take k) := by
  have e := Mt.wrS_stop (l.take k) (l.drop k) d a h
  rwa [List.take_append_drop] at e

section
variable {w u : World} {J B bl bm : Nat} {j : Mt.Jn} {d : Mt.Dk}
theorem JD.lt (h : JD w J B bl bm j d) : J < w.heap.size ∧ B < w.heap.size ∧ bl < w.heap.size ∧ bm < w.heap.size := ⟨lt_of_block h.jn, h.dk.ltB, h.dk.ltL, h.dk.ltM⟩
theorem JD.kept (h : JD w J B bl bm j d) (h0 : u.heap[J]? = w.heap[J]?) (h1 : u.heap[B]? = w.heap[B]?) (h2 : u.heap[bl]? = w.heap[bl]?) (h3 : u.heap[bm]? = w.heap[bm]?) : JD u J B bl bm j d :=
  ⟨h0.trans h.jn, h.dk.kept h1 h2 h3, h.four, h.half, h.head, h.gen, h.used, h.count⟩
theorem JD.only (h : JD w J B bl bm j d) {S : List Nat} (ho : OnlyS S w u) (h0 : J ∉ S) (h1 : B ∉ S) (h2 : bl ∉ S) (h3 : bm ∉ S) : JD u J B bl bm j d :=
  h.kept (ho.block _ h.lt.1 h0) (ho.block _ h.lt.2.1 h1) (ho.block _ h.lt.2.2.1 h2) (ho.block _ h.lt.2.2.2 h3)
/-- The disk was written. -/
theorem JD.disk (h : JD w J B bl bm j d) {e : Mt.Dk} (hd : IsDisk u B bl bm e) (ho : OnlyS [B, bl, bm] w u) (hl : e.lasts.length = d.lasts.length) : JD u J B bl bm j e :=
  ⟨(ho.block _ h.lt.1 (by have := h.neJ; simp; omega)).trans h.jn, hd, by rw [hl]; exact h.four, h.half, h.head, h.gen, h.used, h.count⟩
/-- The journal was written. -/
theorem JD.put (h : JD w J B bl bm j d) {i : Mt.Jn} (hj : IsJ u J B i) (ho : OnlyS [J] w u) (h1 : i.half ≤ 1) (h2 : i.head ≤ 1) (h3 : i.gen ≤ 4294967296) (h4 : i.used ≤ 8192) (h5 : i.count ≤ 8192) : JD u J B bl bm i d :=
  ⟨hj, h.dk.only ho (by have := h.neJ; simp; omega) (by have := h.neJ; simp; omega) (by have := h.neJ; simp; omega), h.four, h1, h2, h3, h4, h5⟩
theorem IsJ.set (h : IsJ w J B j) (i : Nat) (v : Value) (n : Mt.Jn) (hc : (jnV B j).setIfInBounds i v = jnV B n) : IsJ (w.setCell ⟨J, i, none⟩ v) J B n := by
  unfold IsJ at h ⊢
  rw [heap_setCell_same w J i _ _ v h, hc]
/-- All of a journal is written. -/
theorem IsJ.whole (h : IsJ w J B j) (n : Mt.Jn) : IsJ (((((((w.setCell ⟨J, 0, none⟩ (.pointer (some ⟨B, 0, none⟩))).setCell ⟨J, 1, none⟩ (.int .u64 (n.gen : Int))).setCell ⟨J, 2, none⟩ (.int .i64 (n.half : Int))).setCell ⟨J, 3, none⟩ (.int .i64 (n.head : Int))).setCell ⟨J, 4, none⟩ (.int .i64 (n.count : Int))).setCell ⟨J, 5, none⟩ (.int .i64 (n.used : Int))).setCell ⟨J, 6, none⟩ (.bool n.closed)) J B n := by
  have h0 := h.set 0 (.pointer (some ⟨B, 0, none⟩)) j rfl
  have h1 := h0.set 1 (.int .u64 (n.gen : Int)) { j with gen := n.gen } rfl
  have h2 := h1.set 2 (.int .i64 (n.half : Int)) { j with gen := n.gen, half := n.half } rfl
  have h3 := h2.set 3 (.int .i64 (n.head : Int)) { j with gen := n.gen, half := n.half, head := n.head } rfl
  have h4 := h3.set 4 (.int .i64 (n.count : Int)) { j with gen := n.gen, half := n.half, head := n.head, count := n.count } rfl
  have h5 := h4.set 5 (.int .i64 (n.used : Int)) { j with gen := n.gen, half := n.half, head := n.head, count := n.count, used := n.used } rfl
  exact h5.set 6 (.bool n.closed) n rfl
theorem only_jn (w : World) (J : Nat) (a b c d e f g : Value) : OnlyS [J] w (((((((w.setCell ⟨J, 0, none⟩ a).setCell ⟨J, 1, none⟩ b).setCell ⟨J, 2, none⟩ c).setCell ⟨J, 3, none⟩ d).setCell ⟨J, 4, none⟩ e).setCell ⟨J, 5, none⟩ f).setCell ⟨J, 6, none⟩ g) :=
  (((((((OnlyS.refl _ _).setCell (by simp) _).setCell (by simp) _).setCell (by simp) _).setCell (by simp) _).setCell (by simp) _).setCell (by simp) _).setCell (by simp) _
theorem box7_of {w : World} {b : Nat} {x y z u v s t : Value} {T : TypeId} {fr : Nat × Nat} (h : w.heap[b]? = some (.cells #[x, y, z, u, v, s, t] T fr)) : w.cell? ⟨b, 0, none⟩ = some x ∧ w.cell? ⟨b, 1, none⟩ = some y ∧ w.cell? ⟨b, 2, none⟩ = some z ∧ w.cell? ⟨b, 3, none⟩ = some u ∧ w.cell? ⟨b, 4, none⟩ = some v ∧ w.cell? ⟨b, 5, none⟩ = some s ∧ w.cell? ⟨b, 6, none⟩ = some t := by
  simp [World.cell?, h]

set_option maxRecDepth 100000 in
theorem become_any (h : IsJ w J B j) (n : Mt.Jn) (x : Int) : Calls Tryz.prog 58 #[.pointer (some ⟨J, 0, none⟩), .agg (jnV B n), .int .i64 x] w fun e w' => e = .returned (.int .i64 (j.become n x).2) ∧ IsJ w' J B (j.become n x).1 ∧ OnlyS [J] w w' := by
  have hw := (Below.refl w.heap.size w).alloc (Nat.le_refl _) (.cells (jnV B n) 94)
  have hj := h.below hw
  have HJ := Lib.hid hj
  obtain ⟨c0, c1, c2, c3, c4, c5, c6⟩ := hj.cells
  have f0 := hj.frozen 0
  have f1 := hj.frozen 1
  have f2 := hj.frozen 2
  have f3 := hj.frozen 3
  have f4 := hj.frozen 4
  have f5 := hj.frozen 5
  have f6 := hj.frozen 6
  have HO := Lib.hid (Below.onlyS (S := [J]) hw (Nat.le_refl _))
  have hx := heap_alloc_new w (.cells (jnV B n) 94)
  obtain ⟨k0, k1, k2, k3, k4, k5, k6⟩ := box7_of hx
  have HNE : Hid (J ≠ w.heap.size) := Lib.hid (by have := lt_of_block h; omega)
  clear hw hj hx h
  unfold jnV at *
  by_cases hx : x = 0
  · subst hx
    have HR := Lib.hid (show j.become n 0 = (n, 0) from rfl)
    go_enter Tryz.func58, Tryz.ntmps58
    go_wp2_with fail
    go_ret
    refine ⟨Mt.ret_int (by rw [HR.out]), ?_, ?_⟩
    · rw [HR.out]; exact HJ.out.whole n
    · exact HO.out.trans (only_jn _ _ _ _ _ _ _ _ _)
  · have hd : (x == 0) = false := by simpa using hx
    have HR := Lib.hid (show j.become n x = ({ j with closed := true }, x) by unfold Mt.Jn.become; rw [if_neg hx])
    have HJ' : Hid (IsJ ((w.alloc (.cells (jnV B n) 94)).setCell ⟨J, 6, none⟩ (.bool true)) J B { j with closed := true }) := Lib.hid (HJ.out.set 6 (.bool true) { j with closed := true } rfl)
    clear hx
    go_enter Tryz.func58, Tryz.ntmps58
    go_wp2_with fail
    go_ret
    refine ⟨Mt.ret_int (by rw [HR.out]), ?_, ?_⟩
    · rw [HR.out]; exact HJ'.out
    · exact HO.out.setCell (by simp) _
end
end Go.Proofs.YtnioagojiipjlaaGreat

/-
  What put comes to: a body's cells, one behind the other.
-/
namespace Go.Proofs.YtnioagojiipjlaaGreat
open Go.RowKit

theorem secsOf_length (g n : Nat) (b : List UInt8) : (Mt.secsOf g n b).length = Mt.cellsN b.length := by simp [Mt.secsOf]
theorem secsOf_get (g n : Nat) (b : List UInt8) (k : Nat) (h : k < (Mt.secsOf g n b).length) : (Mt.secsOf g n b)[k] = (Mt.cellAt g n b k).sector := by simp [Mt.secsOf]
section
variable {w u : World} {J B bl bm : Nat} {j : Mt.Jn} {d : Mt.Dk}
/-- Where put stands behind k parts. -/
structure PutAt (w wr : World) (J B bl bm : Nat) (j : Mt.Jn) (d : Mt.Dk) (b : List UInt8) (k : Nat) : Prop where
  jd : JD wr J B bl bm j (Mt.wrS d (j.first d.lasts.length + j.used) ((Mt.secsOf j.gen j.count b).take k)).1
  ok : (Mt.wrS d (j.first d.lasts.length + j.used) ((Mt.secsOf j.gen j.count b).take k)).2 = 0
  only : OnlyS [J, B, bl, bm] w wr
  box : ∃ x y, wr.heap[w.heap.size]? = some (.cells #[.int .u64 (j.gen : Int), .int .u64 (j.count : Int), x, .int .i64 (Mt.cellsN b.length : Int), y] 106 (0, 0))
theorem Mt.drop_part (b : List UInt8) (k n : Nat) (hn : n = min 110 (b.length - 110 * k)) :
    (Mt.str (b.drop (110 * k))).extract 0 n = Mt.str ((b.drop (110 * k)).take 110) ∧ (Mt.str (b.drop (110 * k))).extract n (Mt.str (b.drop (110 * k))).size = Mt.str (b.drop (110 * (k + 1))) := by
  have hl : (b.drop (110 * k)).length = b.length - 110 * k := List.length_drop
  constructor
  · have := Mt.ext_list (Mt.str (b.drop (110 * k))) 0 n
    rw [Nat.zero_add, Mt.str_data, List.drop_zero] at this
    rw [this]
    congr 1
    rw [hn]
    by_cases h : 110 ≤ b.length - 110 * k
    · rw [Nat.min_eq_left h]
    · rw [Nat.min_eq_right (by omega), List.take_of_length_le (by omega), List.take_of_length_le (by omega)]
  · have := Mt.extract_list (Mt.str (b.drop (110 * k))) n
    apply ByteArray.ext
    apply Array.ext'
    rw [this, Mt.str_data, Mt.str_data, List.drop_drop]
    by_cases h : 110 ≤ b.length - 110 * k
    · congr 1; omega
    · rw [List.drop_eq_nil_of_le (by omega), List.drop_eq_nil_of_le (by omega)]
theorem PutAt.start (h : JD w J B bl bm j d) (b : List UInt8) (P : Nat) (hP : Mt.cellsN b.length = P) : PutAt w ((w.alloc (.cells #[.int .u64 (j.gen : Int), .int .u64 (j.count : Int), .int .i64 0, .int .i64 (P : Int), .string ⟨#[]⟩] 106)).drew) J B bl bm j d b 0 := by
  have hb : Below w.heap.size w ((w.alloc (.cells #[.int .u64 (j.gen : Int), .int .u64 (j.count : Int), .int .i64 0, .int .i64 (P : Int), .string ⟨#[]⟩] 106)).drew) := ((Below.refl _ _).alloc (Nat.le_refl _) _).drew
  refine ⟨?_, rfl, Below.onlyS hb (Nat.le_refl _), .int .i64 0, .string ⟨#[]⟩, by rw [hP]; exact heap_alloc_new w _⟩
  exact h.below hb
theorem PutAt.part {wr : World} {b : List UInt8} {k P : Nat} (h : PutAt w wr J B bl bm j d b k) (hlt : J < w.heap.size ∧ B < w.heap.size ∧ bl < w.heap.size ∧ bm < w.heap.size) {x y : Value} (hb : wr.heap[w.heap.size]? = some (.cells #[.int .u64 (j.gen : Int), .int .u64 (j.count : Int), x, .int .i64 (P : Int), y] 106 (0, 0))) (Y : Value) :
    let wz := ((wr.setCell ⟨w.heap.size, 2, none⟩ (.int .i64 (k : Int))).setCell ⟨w.heap.size, 4, none⟩ Y).drew
    JD wz J B bl bm j (Mt.wrS d (j.first d.lasts.length + j.used) ((Mt.secsOf j.gen j.count b).take k)).1 ∧ OnlyS [J, B, bl, bm] w wz ∧ wz.heap[w.heap.size]? = some (.cells #[.int .u64 (j.gen : Int), .int .u64 (j.count : Int), .int .i64 (k : Int), .int .i64 (P : Int), Y] 106 (0, 0)) := by
  have hk : ∀ g, g < w.heap.size → (((wr.setCell ⟨w.heap.size, 2, none⟩ (.int .i64 (k : Int))).setCell ⟨w.heap.size, 4, none⟩ Y).drew).heap[g]? = wr.heap[g]? := fun g hg => by
    show ((wr.setCell ⟨w.heap.size, 2, none⟩ (.int .i64 (k : Int))).setCell ⟨w.heap.size, 4, none⟩ Y).heap[g]? = _
    have hne : g ≠ w.heap.size := by omega
    rw [heap_setCell_other _ _ _ _ hne, heap_setCell_other _ _ _ _ hne]
  refine ⟨h.jd.kept (hk _ hlt.1) (hk _ hlt.2.1) (hk _ hlt.2.2.1) (hk _ hlt.2.2.2), ?_, ?_⟩
  · have hb2 : Below w.heap.size wr (((wr.setCell ⟨w.heap.size, 2, none⟩ (.int .i64 (k : Int))).setCell ⟨w.heap.size, 4, none⟩ Y).drew) := (((Below.refl _ _).setCell (p := ⟨w.heap.size, 2, none⟩) (Nat.le_refl _) _).setCell (p := ⟨w.heap.size, 4, none⟩) (Nat.le_refl _) _).drew
    have ho := h.only
    exact ⟨hb2.os.trans ho.os, hb2.tape.trans ho.tape, hb2.output.trans ho.output, Nat.le_trans ho.size hb2.size, fun g hg hS => (hk g hg).trans (ho.block g hg hS)⟩
  · show ((wr.setCell ⟨w.heap.size, 2, none⟩ (.int .i64 (k : Int))).setCell ⟨w.heap.size, 4, none⟩ Y).heap[w.heap.size]? = _
    rw [heap_setCell_same _ _ _ _ _ _ (heap_setCell_same _ _ _ _ _ _ hb)]
    rfl
theorem PutAt.next {wr wz u : World} {b : List UInt8} {k P : Nat} {E : Int} (hP : Mt.cellsN b.length = P) (hk : k < P) (h0 : PutAt w wr J B bl bm j d b k)
    (hz : JD wz J B bl bm j (Mt.wrS d (j.first d.lasts.length + j.used) ((Mt.secsOf j.gen j.count b).take k)).1) (ho : OnlyS [J, B, bl, bm] w wz) (hlt : J < w.heap.size ∧ B < w.heap.size ∧ bl < w.heap.size ∧ bm < w.heap.size)
    (hb : wz.heap[w.heap.size]? = some (.cells #[.int .u64 (j.gen : Int), .int .u64 (j.count : Int), .int .i64 (k : Int), .int .i64 (P : Int), .string (Mt.str ((b.drop (110 * k)).take 110))] 106 (0, 0)))
    (i : Int) (hi : i = ((j.first d.lasts.length + j.used + k : Nat) : Int)) (hd : IsDisk u B bl bm ((Mt.wrS d (j.first d.lasts.length + j.used) ((Mt.secsOf j.gen j.count b).take k)).1.write i (Mt.cellAt j.gen j.count b k).sector).1) (hu : OnlyS [B, bl, bm] wz u)
    (hE : E = ((Mt.wrS d (j.first d.lasts.length + j.used) ((Mt.secsOf j.gen j.count b).take k)).1.write i (Mt.cellAt j.gen j.count b k).sector).2) :
    (E = 0 → PutAt w u J B bl bm j d b (k + 1)) ∧ (E ≠ 0 → (Mt.putJ d j b).2.2 = E ∧ JD u J B bl bm (Mt.putJ d j b).2.1 (Mt.putJ d j b).1 ∧ OnlyS [J, B, bl, bm] w u) := by
  have hl : k < (Mt.secsOf j.gen j.count b).length := by rw [secsOf_length, hP]; exact hk
  have hs := Mt.wrS_succ (Mt.secsOf j.gen j.count b) d (j.first d.lasts.length + j.used) k hl h0.ok
  rw [secsOf_get, ← hi] at hs
  rw [← hs] at hd hE
  have hjd := hz.disk hd hu (by rw [Mt.wrS_len, Mt.wrS_len])
  have hon := ho.trans (hu.mono (by intro x hx; simp at hx ⊢; omega))
  refine ⟨fun e => ⟨hjd, hE.symm.trans e, hon, .int .i64 (k : Int), .string (Mt.str ((b.drop (110 * k)).take 110)), ?_⟩, fun e => ?_⟩
  · rw [hP]
    exact (hu.block _ (lt_of_block hb) (by simp; omega)).trans hb
  · have hne : (Mt.wrS d (j.first d.lasts.length + j.used) ((Mt.secsOf j.gen j.count b).take (k + 1))).2 ≠ 0 := by rw [← hE]; exact e
    have hend := Mt.wrS_end _ _ _ _ hne
    have hp : Mt.putJ d j b = ((Mt.wrS d (j.first d.lasts.length + j.used) ((Mt.secsOf j.gen j.count b).take (k + 1))).1, j, (Mt.wrS d (j.first d.lasts.length + j.used) ((Mt.secsOf j.gen j.count b).take (k + 1))).2) := by
      unfold Mt.putJ
      rw [hend, if_neg hne]
    rw [hp]
    exact ⟨hE.symm, hjd, hon⟩
theorem PutAt.fin {wr : World} {b : List UInt8} {P : Nat} (hP : Mt.cellsN b.length = P) (h : PutAt w wr J B bl bm j d b P) (hu : j.used + P ≤ 8192) (hc : j.count + 1 ≤ 8192) (x y : Value) (hx : x = .int .i64 ((j.count + 1 : Nat) : Int)) (hy : y = .int .i64 ((j.used + P : Nat) : Int)) :
    (Mt.putJ d j b).2.2 = 0 ∧ JD (((wr.setCell ⟨J, 4, none⟩ x).setCell ⟨J, 5, none⟩ y).drew) J B bl bm (Mt.putJ d j b).2.1 (Mt.putJ d j b).1 ∧ OnlyS [J, B, bl, bm] w (((wr.setCell ⟨J, 4, none⟩ x).setCell ⟨J, 5, none⟩ y).drew) := by
  have ht : (Mt.secsOf j.gen j.count b).take P = Mt.secsOf j.gen j.count b := List.take_of_length_le (by rw [secsOf_length, hP]; exact Nat.le_refl _)
  have hok := h.ok
  have hjd := h.jd
  rw [ht] at hok hjd
  have hp : Mt.putJ d j b = ((Mt.wrS d (j.first d.lasts.length + j.used) (Mt.secsOf j.gen j.count b)).1, { j with count := j.count + 1, used := j.used + P }, 0) := by
    unfold Mt.putJ
    rw [if_pos hok, hP]
  rw [hp]
  subst hx hy
  refine ⟨rfl, ?_, ?_⟩
  · have h1 := hjd.jn.set 4 (.int .i64 ((j.count + 1 : Nat) : Int)) { j with count := j.count + 1 } rfl
    have h2 := h1.set 5 (.int .i64 ((j.used + P : Nat) : Int)) { j with count := j.count + 1, used := j.used + P } rfl
    exact hjd.put (u := ((wr.setCell ⟨J, 4, none⟩ _).setCell ⟨J, 5, none⟩ _).drew) h2 ((((OnlyS.refl _ _).setCell (by simp) _).setCell (by simp) _).drew) hjd.half hjd.head hjd.gen hu hc
  · exact ((h.only.setCell (by simp) _).setCell (by simp) _).drew
end
end Go.Proofs.YtnioagojiipjlaaGreat
