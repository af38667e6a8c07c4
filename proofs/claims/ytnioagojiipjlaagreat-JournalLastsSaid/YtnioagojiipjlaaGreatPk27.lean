/-
  Some texts of one proof, one behind the other.
-/
import Derived.Test.YtnioagojiipjlaaGreatPk26
set_option linter.unusedVariables false
set_option linter.unusedSimpArgs false

/-
  What Append comes to.
-/
namespace Go.Proofs.YtnioagojiipjlaaGreat
open Go.RowKit
section
variable {w u : World} {J B bl bm : Nat} {j : Mt.Jn} {d : Mt.Dk}
theorem isTs_one (w : World) (b : List UInt8) : IsTs (w.alloc (.cells #[.string (Mt.str b)] 9)) (.slice (some ⟨w.heap.size, 0, none⟩) 1 1) [b] :=
  isTs_row rfl (heap_alloc_new w _)
theorem JD.become (h : JD w J B bl bm j d) {n : Mt.Jn} {x : Int} (hn : n.half ≤ 1 ∧ n.head ≤ 1 ∧ n.gen ≤ 4294967296 ∧ n.used ≤ 8192 ∧ n.count ≤ 8192) (hj : IsJ u J B (j.become n x).1) (ho : OnlyS [J] w u) : JD u J B bl bm (j.become n x).1 d := by
  unfold Mt.Jn.become at hj ⊢
  split at hj
  · rename_i hx
    rw [if_pos hx]
    exact h.put hj ho hn.1 hn.2.1 hn.2.2.1 hn.2.2.2.1 hn.2.2.2.2
  · rename_i hx
    rw [if_neg hx]
    exact h.put hj ho h.half h.head h.gen h.used h.count
theorem left_le (h : JD w J B bl bm j d) (k : Nat) (hk : k ≤ j.left d) (h1 : 1 ≤ k) : j.used + k ≤ 8192 := by
  unfold Mt.Jn.left at hk
  have := hsize_le h
  omega
set_option maxRecDepth 100000 in
set_option maxHeartbeats 1000000 in
theorem append_any6 (h : JD w J B bl bm j d) (b : List UInt8) (hg : j.gen < 4294967296) (hc : j.count ≤ j.used) (hb : b.length ≤ 140737488355328) :
    Calls Tryz.prog 27 #[.pointer (some ⟨J, 0, none⟩), .string (Mt.str b)] w fun e w' => e = .returned (.int .i64 (Mt.appendJ d j b).2.2) ∧ JD w' J B bl bm (Mt.appendJ d j b).2.1 (Mt.appendJ d j b).1 ∧ OnlyS [J, B, bl, bm] w w' := by
  have hb1 := (Below.refl w.heap.size w).alloc (Nat.le_refl _) (.cells #[.string (Mt.str b)] 9)
  have hj1 := h.below hb1
  have HA := Lib.hid (ask6_any hj1.jn (isTs_one w b) (by simp))
  have HJ1 := Lib.hid hj1
  have HO1 := Lib.hid (Below.onlyS (S := [J, B, bl, bm]) hb1 (Nat.le_refl _))
  have hsz : (Mt.str b).size = b.length := Mt.str_size b
  have HSZ := Lib.hid hsz
  by_cases ha : Mt.askJ j [b] = 0
  · have hbl : b.length ≤ 262144 := Mt.ask_small ha b (by simp)
    rw [ha] at HA
    have HCE : Hid (∀ u, Calls Tryz.prog 55 #[.int .i64 ((Mt.str b).size : Int)] u fun e w' => e = .returned (.int .i64 (Mt.cellsN b.length : Int)) ∧ u = w') := Lib.hid (fun u => by rw [hsz]; exact cells_any b.length u (by omega))
    have HLE := Lib.hid (left_any hj1)
    have hP1 : 1 ≤ Mt.cellsN b.length := by unfold Mt.cellsN; omega
    have hP2 := Mt.cellsN_le b.length (by omega)
    by_cases hl : Mt.cellsN b.length ≤ j.left d
    · have hus := left_le h _ hl hP1
      have HPU : Hid (∀ (u : World) (N : Nat), JD u N B bl bm j d → Calls Tryz.prog 56 #[.pointer (some ⟨N, 0, none⟩), .string (Mt.str b)] u fun e w' => e = .returned (.int .i64 (Mt.putJ d j b).2.2) ∧ JD w' N B bl bm (Mt.putJ d j b).2.1 (Mt.putJ d j b).1 ∧ OnlyS [N, B, bl, bm] u w') := Lib.hid (fun u N hN => put_any hN b hg (by omega) hus (by omega))
      have HR := Lib.hid (show Mt.appendJ d j b = if (Mt.putJ d j b).2.2 = 0 then ((Mt.putJ d j b).1.flush.1, j.become (Mt.putJ d j b).2.1 (Mt.putJ d j b).1.flush.2) else ((Mt.putJ d j b).1, j.become (Mt.putJ d j b).2.1 (Mt.putJ d j b).2.2) by unfold Mt.appendJ; rw [if_pos ha, if_pos hl])
      have hd1 : decide (j.left d < Mt.cellsN b.length) = false := decide_eq_false (by omega)
      have hd2 : decide ((j.left d : Int) < (Mt.cellsN b.length : Int)) = false := decide_eq_false (by omega)
      clear hsz hus hl ha h hb1 hj1 hbl hg hb hc
      generalize Mt.str b = S at *
      generalize Mt.cellsN b.length = P at *
      generalize hLL : j.left d = L at *
      clear hLL
      go_enter Tryz.func27, Tryz.ntmps27
      go_wp2_with fail
      refine (HA.out).mono ?_
      rintro e w1 ⟨rfl, rfl⟩
      go_wp2_with fail
      refine (HCE.out _).mono ?_
      rintro e w1 ⟨rfl, rfl⟩
      go_wp2_with fail
      refine (HLE.out).mono ?_
      rintro e w2 ⟨rfl, hb2⟩
      have hj2 := HJ1.out.below hb2
      have HJ2 := Lib.hid hj2
      have HO2 := Lib.hid (HO1.out.then hb2)
      obtain ⟨c0, c1, c2, c3, c4, c5, c6⟩ := hj2.jn.cells
      have HN0 : Hid (JD (w2.alloc (.cells (jnV B j) 94)) w2.heap.size B bl bm j d) := Lib.hid (by
        have h3 := hj2.below ((Below.refl w2.heap.size w2).alloc (Nat.le_refl _) (.cells (jnV B j) 94))
        exact ⟨heap_alloc_new w2 _, h3.dk, h3.four, h3.half, h3.head, h3.gen, h3.used, h3.count⟩)
      have HJ3 : Hid (IsJ (w2.alloc (.cells (jnV B j) 94)) J B j) := Lib.hid (hj2.jn.below ((Below.refl w2.heap.size w2).alloc (Nat.le_refl _) _))
      have HO3 := Lib.hid (HO2.out.alloc (.cells (jnV B j) 94))
      have hJN : J ≠ w2.heap.size := by have := lt_of_block hj2.jn; omega
      have HJN := Lib.hid hJN
      have hlt2 := hj2.lt
      have HLT2 := Lib.hid hlt2
      unfold jnV at HN0 HJ3 HO3
      have hNge : w.heap.size ≤ w2.heap.size := HO2.out.size
      clear hb2 hj2 hJN hlt2
      go_wp2_with fail
      generalize w2.alloc (.cells #[.pointer (some ⟨B, 0, none⟩), .int .u64 (j.gen : Int), .int .i64 (j.half : Int), .int .i64 (j.head : Int), .int .i64 (j.count : Int), .int .i64 (j.used : Int), .bool j.closed] 94) = w3 at *
      generalize w2.heap.size = N at *
      refine (HPU.out _ _ HN0.out).mono ?_
      rintro e w4 ⟨rfl, hd4, ho4⟩
      have hneN := HN0.out.neJ
      have HJ4 : Hid (IsJ w4 J B j) := Lib.hid ((ho4.block _ (lt_of_block HJ3.out) (by have h1 := HJN.out; have h2 := HJ2.out.neJ; simp; omega)).trans HJ3.out)
      have HD4 := Lib.hid hd4
      have HO4 : Hid (OnlyS [J, B, bl, bm] w w4) := Lib.hid ⟨ho4.os.trans HO3.out.os, ho4.tape.trans HO3.out.tape, ho4.output.trans HO3.out.output, Nat.le_trans HO3.out.size ho4.size, fun k hk hS => (ho4.block k (Nat.lt_of_lt_of_le hk HO3.out.size) (by
        simp at hS ⊢
        omega)).trans (HO3.out.block k hk hS)⟩
      have HSO : Hid (∀ v : World, OnlyS [J] w4 v → OnlyS [J, B, bl, bm] w v) := Lib.hid fun v hv => HO4.out.trans (hv.mono (by intro x hx; simp at hx ⊢; omega))
      have HJF := Lib.hid (And.intro HJ1.out.four (And.intro HJ1.out.half (And.intro HJ1.out.head (And.intro HJ1.out.gen (And.intro HJ1.out.used HJ1.out.count)))))
      have hlen := (Mt.putJ_keeps d j b).2.2.2.2
      have HLEN := Lib.hid hlen
      clear hd4 ho4 hneN c0 c1 c2 c3 c4 c5 c6 hlen
      generalize (Mt.putJ d j b).1 = dP at *
      generalize (Mt.putJ d j b).2.1 = jP at *
      generalize (Mt.putJ d j b).2.2 = E at *
      have hj4 := HJ4.out
      obtain ⟨c0, c1, c2, c3, c4, c5, c6⟩ := hj4.cells
      obtain ⟨n0, n1, n2, n3, n4, n5, n6⟩ := HD4.out.jn.cells
      have HNB := Lib.hid (And.intro HD4.out.half (And.intro HD4.out.head (And.intro HD4.out.gen (And.intro HD4.out.used HD4.out.count))))
      clear hj4
      by_cases hE : E = 0
      · subst hE
        have HFL := Lib.hid (flush_any HD4.out.dk)
        have HR2 := Lib.hid (HR.out.trans (if_pos rfl))
        clear HR
        go_wp2_with fail
        refine (HFL.out).mono ?_
        rintro e w5 ⟨rfl, hd5, ho5⟩
        have hlen5 := Mt.flush_len dP HD4.out.dk.ok
        have hN5 := HD4.out.disk hd5 ho5 hlen5
        have hne := HD4.out.neJ
        have hJB : J ≠ B ∧ J ≠ bl ∧ J ≠ bm := HJ2.out.neJ
        have hJ5 : IsJ w5 J B j := (ho5.block _ (lt_of_block HJ4.out) (by simp; omega)).trans HJ4.out
        have HJ5 : Hid (JD w5 J B bl bm j dP.flush.1) := Lib.hid ⟨hJ5, hd5, by rw [hlen5, HLEN.out]; exact HJF.out.1, HJF.out.2.1, HJF.out.2.2.1, HJF.out.2.2.2.1, HJF.out.2.2.2.2.1, HJF.out.2.2.2.2.2⟩
        have HO5 := Lib.hid (HO4.out.trans (ho5.mono (T := [J, B, bl, bm]) (by intro x hx; simp at hx ⊢; omega)))
        have HBE : Hid (Calls Tryz.prog 58 #[.pointer (some ⟨J, 0, none⟩), .agg #[.pointer (some ⟨B, 0, none⟩), .int .u64 (jP.gen : Int), .int .i64 (jP.half : Int), .int .i64 (jP.head : Int), .int .i64 (jP.count : Int), .int .i64 (jP.used : Int), .bool jP.closed], .int .i64 dP.flush.2] w5 fun e w' => e = .returned (.int .i64 (j.become jP dP.flush.2).2) ∧ IsJ w' J B (j.become jP dP.flush.2).1 ∧ OnlyS [J] w5 w') := Lib.hid (become_any hJ5 jP dP.flush.2)
        clear n0 n1 n2 n3 n4 n5 n6 c0 c1 c2 c3 c4 c5 c6
        obtain ⟨n0, n1, n2, n3, n4, n5, n6⟩ := hN5.jn.cells
        clear hd5 ho5 hlen5 hN5 hne hJB hJ5
        go_wp2_with fail
        refine (HBE.out).mono ?_
        rintro e w6 ⟨rfl, hj6, ho6⟩
        have HJ6 := Lib.hid (HJ5.out.become HNB.out hj6 ho6)
        have HO6 := Lib.hid (HO5.out.trans (ho6.mono (T := [J, B, bl, bm]) (by intro x hx; simp at hx ⊢; omega)))
        clear hj6 ho6
        go_wp2_with fail
        go_ret
        rw [HR2.out]
        exact ⟨rfl, HJ6.out, HO6.out⟩
      · have HR2 := Lib.hid (HR.out.trans (if_neg hE))
        have hd3 : (E == 0) = false := by simpa using hE
        have HJ5 : Hid (JD w4 J B bl bm j dP) := Lib.hid ⟨HJ4.out, HD4.out.dk, by rw [HLEN.out]; exact HJF.out.1, HJF.out.2.1, HJF.out.2.2.1, HJF.out.2.2.2.1, HJF.out.2.2.2.2.1, HJF.out.2.2.2.2.2⟩
        have HBE : Hid (Calls Tryz.prog 58 #[.pointer (some ⟨J, 0, none⟩), .agg #[.pointer (some ⟨B, 0, none⟩), .int .u64 (jP.gen : Int), .int .i64 (jP.half : Int), .int .i64 (jP.head : Int), .int .i64 (jP.count : Int), .int .i64 (jP.used : Int), .bool jP.closed], .int .i64 E] w4 fun e w' => e = .returned (.int .i64 (j.become jP E).2) ∧ IsJ w' J B (j.become jP E).1 ∧ OnlyS [J] w4 w') := Lib.hid (become_any HJ4.out jP E)
        clear HR hE
        go_wp2_with fail
        refine (HBE.out).mono ?_
        rintro e w6 ⟨rfl, hj6, ho6⟩
        have HJ6 := Lib.hid (HJ5.out.become HNB.out hj6 ho6)
        have HO6 := Lib.hid (HSO.out _ ho6)
        clear hj6 ho6
        go_wp2_with fail
        go_ret
        rw [HR2.out]
        exact ⟨rfl, HJ6.out, HO6.out⟩
    · have HR := Lib.hid (show Mt.appendJ d j b = (d, j, 11) by unfold Mt.appendJ; rw [if_pos ha, if_neg hl])
      have hd1 : decide (j.left d < Mt.cellsN b.length) = true := decide_eq_true (by omega)
      have hd2 : decide ((j.left d : Int) < (Mt.cellsN b.length : Int)) = true := decide_eq_true (by omega)
      clear hsz hl ha h hb1 hj1 hbl hg hb hc
      generalize Mt.str b = S at *
      generalize Mt.cellsN b.length = P at *
      generalize hLL : j.left d = L at *
      clear hLL
      go_enter Tryz.func27, Tryz.ntmps27
      go_wp2_with fail
      refine (HA.out).mono ?_
      rintro e w1 ⟨rfl, rfl⟩
      go_wp2_with fail
      refine (HCE.out _).mono ?_
      rintro e w1 ⟨rfl, rfl⟩
      go_wp2_with fail
      refine (HLE.out).mono ?_
      rintro e w2 ⟨rfl, hb2⟩
      have HJ2 := Lib.hid (HJ1.out.below hb2)
      have HO2 := Lib.hid (HO1.out.then hb2)
      clear hb2
      go_wp2_with fail
      go_ret
      rw [HR.out]
      exact ⟨rfl, HJ2.out, HO2.out⟩
  · have HR := Lib.hid (show Mt.appendJ d j b = (d, j, Mt.askJ j [b]) by unfold Mt.appendJ; rw [if_neg ha])
    generalize Mt.askJ j [b] = x at *
    have hd : (x == 0) = false := by simpa using ha
    clear h ha hb1 hj1 hsz
    generalize Mt.str b = S at *
    go_enter Tryz.func27, Tryz.ntmps27
    go_wp2_with fail
    refine (HA.out).mono ?_
    rintro e w1 ⟨rfl, rfl⟩
    go_wp2_with fail
    go_ret
    rw [HR.out]
    exact ⟨rfl, HJ1.out, HO1.out⟩
end
end Go.Proofs.YtnioagojiipjlaaGreat
