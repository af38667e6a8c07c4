/-
  A place kept in a book.
-/
import Derived.Test.YtmdhioifdnaajaaPgF
set_option linter.unusedVariables false
set_option linter.unusedSimpArgs false
namespace Go.Proofs.Ytmdhioifdnaajaa
open Go.RowKit Go.Shelf Go.Maps

/-- One more behind a row, out of a slice that was just made. -/
theorem rw_push {E T : TypeId} {s by' : Nat} {i : TypeInfo} {z : Value} (ht : Try.prog.underlying T = some (.slice E)) (hi : Try.prog.info? E = some i) (hz : i.zero = some z) (hs : i.size = s) (hby : i.bytes = by') (hzs : z.cells.size = s)
    {w : World} {g : Nat} {v : Value} {n : Nat} {xs : List Value} (h : IsRw E s w g v n xs) (h1 : ∀ u ∈ xs, u.oneCell' = true) (cells : Array Value) (hc : cells.size = s) (hc1 : ∀ u ∈ cells.toList, u.oneCell' = true) (hfit : (n + 1) * by' ≤ 140737488355328) (h63 : n + 1 ≤ 4611686018427387904) :
    ∃ a' c' w' g', (∀ ty, (Builtin.append_ #[T, T] ty #[v, .slice (some ⟨w.heap.size, 0, none⟩) 1 1]).run Try.prog (w.alloc (.cells cells E)) = .ok (.slice a' (n + 1) c') w') ∧ IsRw E s w' g' (.slice a' (n + 1) c') (n + 1) (xs ++ cells.toList) ∧ (g' = g ∨ g' = w.heap.size + 1) ∧ OnlyS [g] (w.alloc (.cells cells E)) w' := by
  have h := h.below ((Below.refl w.heap.size w).alloc (Nat.le_refl _) (.cells cells E))
  have src : Src Try.prog i.size T (.slice (some ⟨w.heap.size, 0, none⟩) 1 1) 1 cells.toList (w.alloc (.cells cells E)) :=
    Src.ofSlice _ ht ⟨w.heap.size, 0, none⟩ 1 1 _ (by rw [hs, Array.length_toList, hc, Nat.one_mul]) (fun j u hu => by
      rw [add_off, cell_of_row _ w.heap.size _ _ _ _ (heap_alloc_new w _), Nat.zero_add]
      simpa using hu) hc1
  obtain ⟨v', w', g', hrun, hrw, hg', ho⟩ := rw_append (T := T) (tx := T) ht hi hz hs hby hzs h h1 _ 1 cells.toList src hfit h63
  obtain ⟨a', c', rfl⟩ := hrw.form
  exact ⟨a', c', w', g', hrun, hrw, by simpa using hg', ho⟩
theorem box2G {w : World} {b : Nat} {x y : Value} {T : TypeId} (h : w.heap[b]? = some (.cells #[x, y] T)) : (w.cell? ⟨b, 0, none⟩ = some x ∧ w.cell? ⟨b, 1, none⟩ = some y) ∧ w.frozen? ⟨b, 0, none⟩ = false :=
  ⟨⟨by rw [cell_of_row _ _ _ _ _ _ h]; rfl, by rw [cell_of_row _ _ _ _ _ _ h]; rfl⟩, frozen_of_row _ _ _ _ _ h⟩
set_option maxRecDepth 100000 in
set_option maxHeartbeats 4000000 in
/-- A place kept. -/
theorem keep26_any {w : World} {B : Nat} {S : Nat → Prop} {N last : Nat} {L : Mt.Bk} {c ver at' : Int} (key : ByteArray) (hc : (Lit.int .i64 c).wf = true) (hN : N ≤ 100000) (h : IsBook w B S N last L) :
    Calls Try.prog 10 #[.pointer (some ⟨B, 0, none⟩), .int .i64 c, .string key, .int .i64 ver, .int .i64 at'] w fun e w' =>
      e = .returned (.string (ck (last + 1))) ∧ ∃ S', IsBook w' B S' (N + 1) (last + 1) (Mt.keepB c ⟨last + 1, key, ver, at'⟩ L) ∧ OnlyP S w w' ∧ ∀ k, S' k → S k ∨ w.heap.size ≤ k := by
  obtain ⟨bm, D, g, h1, h2, h3, h4, h5, h6⟩ := h.ex
  have hlast := h.le
  obtain ⟨w1, hw1⟩ : ∃ u, w.setCell ⟨B, 0, none⟩ (.int .u64 ((last : Int) + 1)) = u := ⟨_, rfl⟩
  have ho1 : OnlyS [B] w w1 := by rw [← hw1]; exact (OnlyS.refl [B] w).setCell (by simp) _
  have hB1 : w1.heap[B]? = some (.cells #[.int .u64 ((last : Int) + 1), .map (some bm)] 43) := by rw [← hw1, heap_setCell_same w B 0 _ _ _ h1]; rfl
  have hmB := ownsMapB_ne h2 h1
  have hbml := World.ownsMap.lt h2
  have h2' := ownsMapB_block h2 (ho1.block bm hbml (by simpa using hmB))
  have hgl : ∀ c', Mt.rowB c' L ≠ [] → g c' < w.heap.size ∧ g c' ≠ B ∧ g c' ≠ bm := fun c' hne => by
    obtain ⟨v9, _, hr9⟩ := h3.row c'
    obtain ⟨_, _, _, _, hb9⟩ := hr9.hasBlock (List.length_pos_iff.2 hne)
    refine ⟨lt_of_block hb9, fun e => ?_, h3.notMap h2 hne⟩
    rw [e, h1] at hb9
    injection hb9 with hb9
    injection hb9 with _ hb9
    exact absurd hb9 (by decide)
  have h3' : RowsB w1 D g L := h3.blocks (fun c' hne => ho1.block _ (hgl c' hne).1 (by simpa using (hgl c' hne).2.1))
  obtain ⟨va, vc, hlook, hrw, hat⟩ := look26 hc h2' h3'
  have hn4 := h.ok.few c
  -- the row, wherever it lies
  obtain ⟨g0, hrw0, hg0⟩ : ∃ g0, IsRw 49 4 w1 g0 (.slice va (Mt.rowB c L).length vc) (Mt.rowB c L).length (plsC (Mt.rowB c L)) ∧ ((Mt.rowB c L ≠ [] ∧ g0 = g c) ∨ (Mt.rowB c L = [] ∧ g0 = w1.heap.size)) := by
    by_cases hne : Mt.rowB c L = []
    · refine ⟨w1.heap.size, ?_, .inr ⟨hne, rfl⟩⟩
      have hz := (h3'.nil hne).2
      rw [hat] at hz
      injection hz with hz
      rw [hz, hne]
      exact IsRw.nil _ _ _ _
    · exact ⟨g c, hrw, .inl ⟨hne, rfl⟩⟩
  have hg0f : g0 ≠ B ∧ g0 ≠ bm ∧ (∀ c', c' ≠ c → Mt.rowB c' L ≠ [] → g0 ≠ g c') ∧ (S g0 ∨ w.heap.size ≤ g0) := by
    rcases hg0 with ⟨hne, rfl⟩ | ⟨hne, rfl⟩
    · exact ⟨(hgl c hne).2.1, (hgl c hne).2.2, fun c' hc' hl e => hc' (h3.apart c' c hl hne e.symm), .inl (h6 c hne)⟩
    · have hs := ho1.size
      have hBl := lt_of_block h1
      exact ⟨by omega, by omega, fun c' _ hl e => by have := (hgl c' hl).1; omega, .inr hs⟩
  obtain ⟨i0, hi0, hz0, hz1, hz2⟩ := info_parts Try.infoPlace
  obtain ⟨a2, cp2, w2, g2, hrun, hrw2, hg2, ho2⟩ := rw_push (T := 44) Try.underlying44 hi0 hz0 hz1 hz2 rfl (IsRw.kept (u := w1.drew) hrw0 rfl) (plsC_one _) #[.int .u64 ((last : Int) + 1), .string key, .int .i64 ver, .int .i64 at'] rfl (by simp [Value.oneCell']) (by omega) (by omega)
  obtain ⟨R, hR⟩ : ∃ R, Mt.rowB c L = R := ⟨_, rfl⟩
  obtain ⟨Rn, hRn⟩ : ∃ Rn, (R ++ [(⟨last + 1, key, ver, at'⟩ : Mt.Pl)]).drop (R.length + 1 - 4) = Rn := ⟨_, rfl⟩
  have hcells : plsC R ++ (#[Value.int .u64 ((last : Int) + 1), .string key, .int .i64 ver, .int .i64 at'] : Array Value).toList = plsC (R ++ [(⟨last + 1, key, ver, at'⟩ : Mt.Pl)]) := by rw [plsC_append]; rfl
  have hl1 : (R ++ [(⟨last + 1, key, ver, at'⟩ : Mt.Pl)]).length = R.length + 1 := by simp
  have hkeep : Mt.rowB c (Mt.keepB c ⟨last + 1, key, ver, at'⟩ L) = Rn := by rw [Mt.keepB_same (h.ok.few c), hR, hRn]
  rw [hR] at hrun hrw2 hn4 hlook
  rw [hcells] at hrw2
  have hs1 := ho1.size
  have hsz1 : (w1.drew.alloc (.cells #[.int .u64 ((last : Int) + 1), .string key, .int .i64 ver, .int .i64 at'] 49)).heap.size = w1.heap.size + 1 := by simp
  have hs2 : w1.heap.size + 1 ≤ w2.heap.size := by have := ho2.size; omega
  have hold2 : ∀ k, k < w1.heap.size → k ≠ g0 → w2.heap[k]? = w1.heap[k]? := fun k hk hne => (ho2.block k (by omega) (by simpa using hne)).trans (((Below.refl w1.heap.size w1).drew.alloc (Nat.le_refl _) _).block k hk)
  have hBl := lt_of_block hB1
  have hbm1 : bm < w1.heap.size := by omega
  have hg2l : g2 < w2.heap.size := by
    obtain ⟨_, _, _, _, hb9⟩ := hrw2.hasBlock (by omega)
    exact lt_of_block hb9
  have hg2f : g2 ≠ B ∧ g2 ≠ bm ∧ (∀ c', c' ≠ c → Mt.rowB c' L ≠ [] → g2 ≠ g c') ∧ (S g2 ∨ w.heap.size ≤ g2) := by
    rcases hg2 with rfl | e
    · exact hg0f
    · have e2 : g2 = w1.heap.size + 1 := e
      exact ⟨by omega, by omega, fun c' _ hl e => by have := (hgl c' hl).1; omega, .inr (by omega)⟩
  have HUP : Hid (∀ (w3 : World) (a3 : Option Addr) (c3 : Nat), IsRw 49 4 w3 g2 (.slice a3 Rn.length c3) Rn.length (plsC Rn) → OnlyS [g2] w2 w3 → ∃ w4, (Instr.mapUpdate 40 (.map (some bm)) (.int .i64 c) (.slice a3 Rn.length c3)).run Try.prog w3 = .ok () w4 ∧ w3.cell? ⟨B, 1, none⟩ = some (.map (some bm)) ∧ w4.cell? ⟨B, 0, none⟩ = some (.int .u64 ((last : Int) + 1)) ∧ (∃ S', IsBook w4 B S' (N + 1) (last + 1) (Mt.keepB c ⟨last + 1, key, ver, at'⟩ L) ∧ ∀ k, S' k → S k ∨ w.heap.size ≤ k) ∧ OnlyP S w w4) := Lib.hid (fun w3 a3 c3 hr3 ho3 => by
    have hold3 : ∀ k, k < w1.heap.size → k ≠ g0 → k ≠ g2 → w3.heap[k]? = w1.heap[k]? := fun k hk hne hn2 => (ho3.block k (by omega) (by simpa using hn2)).trans (hold2 k hk hne)
    have hB3 := (hold3 B hBl hg0f.1.symm hg2f.1.symm).trans hB1
    have hown3 := ownsMapB_block h2' (hold3 bm hbm1 hg0f.2.1.symm hg2f.2.1.symm)
    obtain ⟨w4, hup, hown4, hg4⟩ := hown3.update keyLawB Try.underlying40 (by unfold maxLen; omega) (keyB hc) (val := .slice a3 Rn.length c3) (d := .held (.slice a3 Rn.length c3)) (ps := []) rfl
    have hB4 := (grownMap hg4 (lt_of_block hB3) (fun e => ownsMapB_ne hown3 hB3 e.symm)).trans hB3
    refine ⟨w4, hup, (box2G hB3).1.2, (box2G hB4).1.1, ⟨fun k => S k ∨ k = g2, ⟨h.ok.keep c _ rfl, by omega, ⟨bm, _, _, ?_, hown4, h3'.put h2'.isMap c g2 _ ?_ (fun c' hc' => Mt.keepB_other hc' _ L) ?_ (fun c' hc' hl => ?_) (fun c' hc' hl => hg2f.2.2.1 c' hc' hl), .inl h4, .inl h5, fun c' hl => ?_⟩, fun k hk => ?_⟩, fun k hk => ?_⟩, ?_⟩
    · exact hB4
    · rw [hkeep, ← hRn]
      intro e
      have := congrArg List.length e
      rw [List.length_drop, hl1] at this
      simp only [List.length_nil] at this
      omega
    · rw [hkeep]
      exact hr3.kept (grownMap hg4 (Nat.lt_of_lt_of_le hg2l ho3.size) hg2f.2.1)
    · have hgc := hgl c' hl
      rw [grownMap hg4 (by have := ho3.size; omega) hgc.2.2]
      exact hold3 _ (by omega) (fun e => hg0f.2.2.1 c' hc' hl e.symm) (fun e => hg2f.2.2.1 c' hc' hl e.symm)
    · by_cases e : c' = c
      · rw [if_pos e]; exact .inr rfl
      · rw [if_neg e]
        rw [Mt.keepB_other e] at hl
        exact .inl (h6 c' hl)
    · have h34 := hg4.size
      have h23 := ho3.size
      rcases hk with hk | rfl
      · have := h.lt k hk; omega
      · omega
    · rcases hk with hk | rfl
      · exact .inl hk
      · exact hg2f.2.2.2
    · have p1 : OnlyP S w w1 := ho1.toP (fun k hk => by simp at hk; rw [hk]; exact .inl h4)
      have p2 : OnlyP S w w2 := by
        refine ⟨ho2.os.trans p1.os, ho2.tape.trans p1.tape, ho2.output.trans p1.output, by omega, fun k hk hS => ?_⟩
        rw [hold2 k (by omega) (fun e => by rcases hg0f.2.2.2 with h9 | h9; exact hS (by rw [e]; exact h9); omega)]
        exact p1.block k hk hS
      have p3 : OnlyP S w w3 := p2.trans (ho3.toP (S := fun k => S k ∨ w.heap.size ≤ k) (fun k hk => by simp at hk; rw [hk]; exact .inl hg2f.2.2.2)) (fun k hk => hk)
      exact p3.trans (grownP hg4 (S := S) h5) (fun k hk => .inl hk))
  have HD : Hid (∀ (u : World) (k : Int), (k = ((R.length + 1 - 4 : Nat) : Int)) → u.heap = w2.heap → Calls Try.prog 18 #[.slice a2 (R.length + 1) cp2, .int .i64 0, .int .i64 k] u fun e w' => ∃ a3 c3, e = .returned (.slice a3 Rn.length c3) ∧ IsRw 49 4 w' g2 (.slice a3 Rn.length c3) Rn.length (plsC Rn) ∧ OnlyS [g2] u w') := Lib.hid (fun u k hk hu => by
    rw [hk]
    have hr : IsRw 49 4 u g2 (.slice a2 (R ++ [(⟨last + 1, key, ver, at'⟩ : Mt.Pl)]).length cp2) (R ++ [(⟨last + 1, key, ver, at'⟩ : Mt.Pl)]).length (plsC (R ++ [(⟨last + 1, key, ver, at'⟩ : Mt.Pl)])) := by
      rw [hl1]
      exact hrw2.kept (by rw [hu])
    have := deletePG_any hr (by omega) 0 (R.length + 1 - 4) (Nat.zero_le _) (by omega)
    rw [List.take_zero, List.nil_append, hRn, hl1] at this
    exact this)
  have hB2 := (hold2 B hBl hg0f.1.symm).trans hB1
  have hBx := box2G hB1
  have hBy := box2G hB2
  have hBw := box2G h1
  have HPT : Hid (∀ u : World, Calls Try.prog 16 #[.int .u64 ((last : Int) + 1), .int .i64 8] u fun e w' => e = .returned (.string (ck (last + 1))) ∧ Below u.heap.size u w') := Lib.hid (fun u => by
    have := put_yes (last + 1) 8 u (by omega) (by omega)
    exact this)
  have wl : IntKind.u64.wrap ((last : Int) + 1) = (last : Int) + 1 := by simp [IntKind.wrap, IntKind.bits, IntKind.signed]; omega
  have hlk1 : (Instr.lookup 40 (.map (some bm)) (.int .i64 c) false).run Try.prog w1.drew = .ok (.slice va R.length vc) w1.drew := by
    obtain ⟨va', vc', hl', -, hat'⟩ := look26 (w := w1.drew) hc h2' (h3'.blocks (u := w1.drew) (fun _ _ => rfl))
    rw [hat] at hat'
    injection hat' with hat'
    rw [hR] at hl' hat'
    rw [hat']
    exact hl'
  have HBF := Lib.hid (And.intro hBw (And.intro hBx hBy))
  have hwB : (w1.alloc (.cells #[.int .u64 ((last : Int) + 1), .string key, .int .i64 ver, .int .i64 at'] 49)).drew.cell? ⟨B, 1, none⟩ = some (.map (some bm)) ∧ (w1.alloc (.cells #[.int .u64 ((last : Int) + 1), .string key, .int .i64 ver, .int .i64 at'] 49)).drew.cell? ⟨B, 0, none⟩ = some (.int .u64 ((last : Int) + 1)) := by
    have hq := (((Below.refl w1.heap.size w1).alloc (Nat.le_refl _) (.cells #[.int .u64 ((last : Int) + 1), .string key, .int .i64 ver, .int .i64 at'] 49)).drew.block B hBl).trans hB1
    exact ⟨(box2G hq).1.2, (box2G hq).1.1⟩
  have hlk2 : (Instr.lookup 40 (.map (some bm)) (.int .i64 c) false).run Try.prog (w1.alloc (.cells #[.int .u64 ((last : Int) + 1), .string key, .int .i64 ver, .int .i64 at'] 49)).drew = .ok (.slice va R.length vc) (w1.alloc (.cells #[.int .u64 ((last : Int) + 1), .string key, .int .i64 ver, .int .i64 at'] 49)).drew := by
    have hbb := ((Below.refl w1.heap.size w1).alloc (Nat.le_refl _) (.cells #[.int .u64 ((last : Int) + 1), .string key, .int .i64 ver, .int .i64 at'] 49)).drew
    obtain ⟨va', vc', hl', -, hat'⟩ := look26 (w := (w1.alloc (.cells #[.int .u64 ((last : Int) + 1), .string key, .int .i64 ver, .int .i64 at'] 49)).drew) hc (ownsMapB_block h2' (hbb.block _ hbm1)) (h3'.blocks (fun c' hl => hbb.block _ (by have := (hgl c' hl).1; omega)))
    rw [hat] at hat'
    injection hat' with hat'
    rw [hR] at hl' hat'
    rw [hat']
    exact hl'
  obtain ⟨q0, q1⟩ := hwB
  clear h1 h2 h3 h4 h5 h6 ho1 hB1 hmB hbml h2' hgl h3' hrw hat hrw0 hg0 hg0f hi0 hz0 hz1 hz2 hrw2 hg2 ho2 hR hcells hl1 hkeep hs1 hsz1 hs2 hold2 hBl hbm1 hg2l hg2f hB2 hBx hBy hBw hRn h hlast
  obtain ⟨⟨⟨x0, x1⟩, f0⟩, -, -⟩ := HBF.out
  go_enter Try.func10, Try.ntmps10
  go_upto_region 4 with fail
  clear hw1 x0 x1 f0
  obtain ⟨-, ⟨⟨x0, x1⟩, f0⟩, -⟩ := HBF.out
  generalize R.length = n at *
  go_region_law (first | (refine step_append_eq (w := (w1.alloc (.cells #[.int .u64 ((last : Int) + 1), .string key, .int .i64 ver, .int .i64 at'] 49)).drew) rfl (.tmp 26) (.tmp 36) 44 44 rfl _ _ (by rfl) (by rfl) hrun ?_))
  all_goals
    clear hrun hlk1 hlk2 q0 q1 x0 x1 f0
    obtain ⟨-, -, ⟨⟨x0, x1⟩, f0⟩⟩ := HBF.out
    obtain ⟨k0, hk0⟩ : ∃ k0 : Int, ((n + 1 - 4 : Nat) : Int) = k0 := ⟨_, rfl⟩
    have HD0 := Lib.hid (HD.out w2.drew k0 hk0.symm rfl)
    have hif : (if 0 < IntKind.i64.wrap ((n : Int) + 1 - 4) then IntKind.i64.wrap ((n : Int) + 1 - 4) else 0) = k0 := by
      have e : IntKind.i64.wrap ((n : Int) + 1 - 4) = (n : Int) + 1 - 4 := by simp [IntKind.wrap, IntKind.bits, IntKind.signed]; omega
      rw [e, ← hk0]
      split <;> omega
    clear hk0
    go_upto_region 5 with fail
    go_region_law (first | (go_simp; go_at_call 18; go_must ((refine (HD0.out).mono ?_); (rintro e w3 ⟨a3, c3, rfl, hr3, ho3⟩); (obtain ⟨w4, hup, hx3, hx4, hbk4, hop4⟩ := HUP.out w3 a3 c3 hr3 ((OnlyS.refl [g2] w2).drew.trans ho3)); (have H4 := Lib.hid (And.intro hbk4 hop4)); (clear hr3 ho3 hbk4 hop4))))
    all_goals
      have HP4 := Lib.hid (HPT.out w4)
      clear x0 x1 f0 hx3 hup
      go_wp2_with fail
      refine (HP4.out).mono ?_
      rintro e w5 ⟨rfl, hb⟩
      have HFIN : Hid (∃ S', IsBook w5 B S' (N + 1) (last + 1) (Mt.keepB c ⟨last + 1, key, ver, at'⟩ L) ∧ OnlyP S w w5 ∧ ∀ k, S' k → S k ∨ w.heap.size ≤ k) := Lib.hid (by
        obtain ⟨⟨S', hb4, hs4⟩, hop4⟩ := H4.out
        exact ⟨S', hb4.below hb, hop4.trans (belowToP (S := S) hb) (fun k hk => .inl hk), hs4⟩)
      clear hb
      go_wp2_with fail
      all_goals (go_ret; exact ⟨rfl, HFIN.out⟩)
end Go.Proofs.Ytmdhioifdnaajaa
