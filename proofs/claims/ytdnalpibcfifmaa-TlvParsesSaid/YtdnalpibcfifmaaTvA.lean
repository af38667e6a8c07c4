/-
  What awake of the statements on tlv comes to, and the document's Same.
-/
import Derived.Test.YtdnalpibcfifmaaTvP
import Derived.Test.YtdnalpibcfifmaaTvI
namespace Go.Proofs.Ytdnalpibcfifmaa
open Go.RowKit

theorem Mt.whole_awake : Mt.wholeL [48, 3, 2, 1, 5] = .ok (.mk 48 [] [.mk 2 [5] []]) := by rfl

set_option maxRecDepth 100000 in
theorem awake7_any (w : World) : Calls Try.prog 9 #[] w fun e w' => e = .returned (.bool true) ∧ Below w.heap.size w w' := by
  have HW : Hid (Calls Try.prog 7 #[.string ⟨#[48, 3, 2, 1, 5]⟩] w (WholeP w [48, 3, 2, 1, 5])) := Whole_any ⟨#[48, 3, 2, 1, 5]⟩ w (by decide)
  have HI : Hid (∀ W : World, Calls Try.prog 16 #[.int .i64 128] W fun e w' => e = .returned (.string ⟨#[0, 128]⟩) ∧ Below W.heap.size W w') := fun W => int_any 128 W (by decide) (by decide)
  have HJ : Hid (∀ W : World, Calls Try.prog 16 #[.int .i64 (-1)] W fun e w' => e = .returned (.string ⟨#[255]⟩) ∧ Below W.heap.size W w') := fun W => int_any (-1) W (by decide) (by decide)
  go_enter Try.func9, Try.ntmps9
  go_wp2_with fail
  refine (HW.out).mono ?_
  rintro x w1 ⟨hb1, hx⟩
  rw [Mt.whole_awake] at hx
  obtain ⟨v, rfl, hn⟩ := hx
  obtain ⟨h', _, b, off, c, rfl, hk⟩ := hn.kid 0 (by simp [Mt.Nd.kids])
  obtain ⟨x0, x1, x2, h0, h1, h2, hk0⟩ := hk 0 (by simp [Mt.Nd.kids])
  obtain ⟨a3, c3, e3⟩ := hk0.form
  simp only [Value.agg.injEq] at e3
  have e4 := congrArg Array.toList e3
  simp only [List.cons.injEq, and_true] at e4
  obtain ⟨rfl, rfl, rfl⟩ := e4
  have hblt := World.block_lt_of_cell? w1 _ h1
  have hcell : ∀ o, (w1.alloc o).cell? ⟨b, off + 1, none⟩ = some (.string (Mt.str [5])) := fun o => by
    rw [World.cell?_alloc_lt _ _ _ hblt]
    exact h1
  have HB1 := Lib.hid hb1
  have hst : ((Mt.str [5]).toList == [5]) = true := by rw [ByteArray.toList_eq]; rfl
  clear hb1 hn hk hk0 h0 h1 h2 e3
  simp only [Mt.Nd.tag, Mt.Nd.data, Mt.Nd.kids]
  go_wp2_with fail
  refine (HI.out _).mono ?_
  rintro x w2 ⟨rfl, hb2⟩
  have HB2 := Lib.hid ((HB1.out.alloc HB1.out.size _).trans (hb2.mono (by have := HB1.out.size; simp; omega)))
  clear hb2
  go_wp2_with fail
  refine (HJ.out _).mono ?_
  rintro x w3 ⟨rfl, hb3⟩
  have HB3 := Lib.hid (HB2.out.trans (hb3.mono HB2.out.size))
  clear hb3
  go_wp2_with fail
  go_ret
  exact ⟨rfl, HB3.out⟩

set_option maxRecDepth 100000 in
theorem same_any : ∀ (h1 h2 : Nat) (n : Mt.Nd) (v1 v2 : Value) (w : World) (ok1 ok2 : Nat → Prop), IsNd w ok1 h1 v1 n → IsNd w ok2 h2 v2 n → Calls Try.prog 10 #[v1, v2] w fun e w' => e = .returned (.bool true) ∧ Below w.heap.size w w'
  | 0, _, _, _, _, _, _, _, hh, _ => hh.elim
  | h1 + 1, 0, _, _, _, _, _, _, _, hh => hh.elim
  | h1 + 1, h2 + 1, n, v1, v2, w, ok1, ok2, hn1, hn2 => by
    have IH := Lib.hid (fun (n : Mt.Nd) (v1 v2 : Value) (w : World) (a : IsNd w ok1 h1 v1 n) (b : IsNd w ok2 h2 v2 n) => same_any h1 h2 n v1 v2 w ok1 ok2 a b)
    obtain ⟨a1, c1, rfl, hd1, hk1, hkk1⟩ := hn1
    obtain ⟨a2, c2, rfl, _, _, hkk2⟩ := hn2
    obtain ⟨ks, hks⟩ : ∃ ks, n.kids = ks := ⟨_, rfl⟩
    rw [hks] at hk1 hkk1 hkk2 ⊢
    have HK1 := Lib.hid hkk1
    have HK2 := Lib.hid hkk2
    clear hkk1 hkk2 hks hd1
    generalize n.tag = t
    generalize n.data = D
    have hb0 : Below w.heap.size w ((w.alloc (.cells #[.int .i64 t, .string (Mt.str D), .slice a1 ks.length c1] 24)).alloc (.cells #[.int .i64 t, .string (Mt.str D), .slice a2 ks.length c2] 24)) :=
      ((Below.refl _ _).alloc (Nat.le_refl _) _).alloc (by simp) _
    have hz1 : (w.alloc (.cells #[.int .i64 t, .string (Mt.str D), .slice a1 ks.length c1] 24)).heap.size = w.heap.size + 1 := by simp
    have hrow2 := heap_alloc_new (w.alloc (.cells #[.int .i64 t, .string (Mt.str D), .slice a1 ks.length c1] 24)) (.cells #[.int .i64 t, .string (Mt.str D), .slice a2 ks.length c2] 24)
    rw [hz1] at hrow2
    have hrow1 := (((Below.refl (w.alloc (.cells #[.int .i64 t, .string (Mt.str D), .slice a1 ks.length c1] 24)).heap.size _).alloc (Nat.le_refl _) (.cells #[.int .i64 t, .string (Mt.str D), .slice a2 ks.length c2] 24)).block w.heap.size (by rw [hz1]; omega)).trans (heap_alloc_new w _)
    have HB0 := Lib.hid hb0
    have HR1 := Lib.hid hrow1
    have HR2 := Lib.hid hrow2
    clear hb0 hrow1 hrow2 hz1
    go_enter Try.func10, Try.ntmps10
    go_wp2_with fail
    go_loopw [30] (fun i wr => ∃ k : Nat, k ≤ ks.length ∧ i = .int .i64 k ∧ Hid (Below w.heap.size w wr ∧ wr.heap[w.heap.size]? = some (.cells #[.int .i64 t, .string (Mt.str D), .slice a1 ks.length c1] 24 (0, 0)) ∧ wr.heap[w.heap.size + 1]? = some (.cells #[.int .i64 t, .string (Mt.str D), .slice a2 ks.length c2] 24 (0, 0)))) (fun i _ => ks.length - (intOf i).toNat)
    case atStart => exact ⟨0, Nat.zero_le _, rfl, HB0.out, HR1.out, HR2.out⟩
    case round =>
      obtain ⟨k, hk, rfl, HR⟩ := hrel
      by_cases hlt : k < ks.length
      · obtain ⟨hb, hr1, hr2⟩ := HR.out
        have b1 := cell_of_row wr w.heap.size 2 _ _ _ hr1
        have b2 := cell_of_row wr (w.heap.size + 1) 2 _ _ _ hr2
        obtain hnil | ⟨ba, oa, rfl, _, hca⟩ := HK1.out
        · rw [hnil] at hlt; simp at hlt
        obtain hnil | ⟨bb, ob, rfl, _, hcb⟩ := HK2.out
        · rw [hnil] at hlt; simp at hlt
        obtain ⟨x0, x1, x2, p0, p1, p2, hx⟩ := hca k hlt
        obtain ⟨y0, y1, y2, q0, q1, q2, hy⟩ := hcb k hlt
        have hla := World.block_lt_of_cell? w _ p0
        have hlb := World.block_lt_of_cell? w _ q0
        have ea : ∀ o, wr.cell? ⟨ba, o, none⟩ = w.cell? ⟨ba, o, none⟩ := fun o => hb.cell (p := ⟨ba, o, none⟩) hla
        have eb : ∀ o, wr.cell? ⟨bb, o, none⟩ = w.cell? ⟨bb, o, none⟩ := fun o => hb.cell (p := ⟨bb, o, none⟩) hlb
        rw [← ea] at p0 p1 p2
        rw [← eb] at q0 q1 q2
        rw [Nat.mul_comm 3 k] at p0 p1 p2 q0 q1 q2
        have hx' := hx.below hb
        have hy' := hy.below hb
        have hk2 : ks.length ≤ 9223372036854775807 := by omega
        clear ea eb hx hy hca hcb
        have hbd : Below wr.heap.size wr wr.drew := ⟨rfl, rfl, rfl, Nat.le_refl _, fun _ _ => rfl⟩
        have HC := Lib.hid (IH.out ks[k] _ _ wr.drew (hx'.below hbd) (hy'.below hbd))
        clear hx' hy' hbd
        go_wp2_with fail
        go_still_tail 10, (by kernel_rfl)
        change wpList _ _ _ _ _ wr.drew
        have HBD : Hid (Below w.heap.size w wr.drew) := ⟨hb.os, hb.tape, hb.output, hb.size, hb.block⟩
        have HH1 : Hid (wr.drew.heap[w.heap.size]? = some (.cells #[.int .i64 t, .string (Mt.str D), .slice (some ⟨ba, oa, none⟩) ks.length c1] 24 (0, 0))) := hr1
        have HH2 : Hid (wr.drew.heap[w.heap.size + 1]? = some (.cells #[.int .i64 t, .string (Mt.str D), .slice (some ⟨bb, ob, none⟩) ks.length c2] 24 (0, 0))) := hr2
        clear b1 b2 p0 p1 p2 q0 q1 q2 hr1 hr2 hb hla hlb
        generalize wr.drew = w2 at *
        go_wp2_with fail
        refine (HC.out).mono ?_
        rintro x w3 ⟨rfl, hb3⟩
        have HX : Hid (Below w.heap.size w w3 ∧ w3.heap[w.heap.size]? = some (.cells #[.int .i64 t, .string (Mt.str D), .slice (some ⟨ba, oa, none⟩) ks.length c1] 24 (0, 0)) ∧ w3.heap[w.heap.size + 1]? = some (.cells #[.int .i64 t, .string (Mt.str D), .slice (some ⟨bb, ob, none⟩) ks.length c2] 24 (0, 0))) :=
          ⟨HBD.out.trans (hb3.mono HBD.out.size), (hb3.block _ (lt_of_block HH1.out)).trans HH1.out, (hb3.block _ (lt_of_block HH2.out)).trans HH2.out⟩
        clear hb3
        go_wp2_with fail
        go_roundw
        case rel => exact ⟨k + 1, by omega, by go_num, HX⟩
        case measure => simp [intOf]; omega
      · go_wp2_with fail
        go_ret
        exact ⟨rfl, HR.out.1⟩
end Go.Proofs.Ytdnalpibcfifmaa
