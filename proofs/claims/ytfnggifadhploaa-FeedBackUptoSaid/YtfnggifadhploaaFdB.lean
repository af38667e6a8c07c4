/-
  How a buffer lies in memory; feed.cut, New, Len, Add, take, Next.
-/
import Derived.Test.YtfnggifadhploaaFd
namespace Go.Proofs.Ytfnggifadhploaa
open Go.RowKit

theorem Mt.cutL_of (l : List UInt8) {n e : Nat} (h : Mt.sizeL (l.take 6) = (n, e)) : Mt.cutL l = if e ≠ 0 ∨ l.length < n then (0, e) else (n, e) := by
  unfold Mt.cutL; rw [h]

theorem cut_any (l : List UInt8) (s : ByteArray) (hsl : s.data.toList = l.take 6) (w : World) (hl : l.length ≤ 140737488351232) :
    Calls Try.prog 44 #[.string s, .int .i64 l.length] w fun e w' => e = .returned (.tuple #[.int .i64 (Mt.cutL l).1, .int .i64 (Mt.cutL l).2]) ∧ w = w' := by
  have hs : s.size ≤ 6 := by
    have h1 : s.data.toList.length = s.size := rfl
    rw [← h1, hsl, List.length_take]; omega
  have HS := Lib.hid (size_any s w (by omega))
  have hlt := Mt.sizeL_lt (l.take 6)
  rw [hsl] at HS
  obtain ⟨n, e, hne⟩ : ∃ n e, Mt.sizeL (l.take 6) = (n, e) := ⟨_, _, rfl⟩
  rw [Mt.cutL_of l hne]
  rw [hne] at HS hlt
  simp only at HS hlt
  clear hne hsl
  generalize l.length = m at *
  by_cases h0 : e = 0
  · have h1 : ((e : Int) != 0) = false := by simp [h0]
    have h1b : ((e : Int) == 0) = true := by simp [h0]
    by_cases h2 : m < n
    · have h3 : decide (m < n) = true := by simpa using h2
      rw [if_pos (.inr h2)]
      subst h0
      go_enter Try.func44, Try.ntmps44
      go_wp2_with (go_at_call 58; refine (HS.out).mono ?_; rintro e w' ⟨rfl, rfl⟩)
      go_ret2
      exact ⟨rfl, rfl⟩
    · have h3 : decide (m < n) = false := by simpa using h2
      rw [if_neg (by simp [h0]; omega)]
      subst h0
      go_enter Try.func44, Try.ntmps44
      go_wp2_with (go_at_call 58; refine (HS.out).mono ?_; rintro e w' ⟨rfl, rfl⟩)
      go_ret2
      exact ⟨rfl, rfl⟩
  · have h1 : ((e : Int) != 0) = true := by simp; omega
    have h1b : ((e : Int) == 0) = false := by simp; omega
    rw [if_pos (.inl h0)]
    go_enter Try.func44, Try.ntmps44
    go_wp2_with (go_at_call 58; refine (HS.out).mono ?_; rintro e w' ⟨rfl, rfl⟩)
    go_ret2
    exact ⟨rfl, rfl⟩

/-- A buffer: its two cells, and the bytes that wait in another block. -/
def IsBuf (w : World) (B g : Nat) (l : List UInt8) (e : Nat) : Prop := ∃ v, w.heap[B]? = some (.cells #[v, .int .i64 e] 84 (0, 0)) ∧ IsByt w g v l ∧ B ≠ g
section
variable {w u : World} {B g : Nat} {l : List UInt8} {e : Nat}
theorem IsBuf.kept (h : IsBuf w B g l e) (h1 : u.heap[B]? = w.heap[B]?) (h2 : u.heap[g]? = w.heap[g]?) : IsBuf u B g l e := by
  obtain ⟨v, hv, hb, hn⟩ := h
  exact ⟨v, h1.trans hv, hb.kept h2, hn⟩
theorem IsBuf.lt (h : IsBuf w B g l e) : B < w.heap.size := by obtain ⟨v, hv, _⟩ := h; exact lt_of_block hv
theorem IsByt.form {v : Value} (h : IsByt w g v l) : ∃ a n c, v = .slice a n c := by
  rcases h with ⟨_, rfl⟩ | ⟨off, cap, cur, rfl, _⟩ <;> exact ⟨_, _, _, rfl⟩
theorem IsByt.below {v : Value} (h : IsByt w g v l) (hb : Below w.heap.size w u) : IsByt u g v l := by
  rcases h with h | ⟨off, cap, cur, h1, h2, h3⟩
  · exact .inl h
  · exact .inr ⟨off, cap, cur, h1, (hb.block g (lt_of_block h2)).trans h2, h3⟩
theorem IsBuf.below (h : IsBuf w B g l e) (hb : Below w.heap.size w u) : IsBuf u B g l e := by
  obtain ⟨v, hv, h2, hn⟩ := h
  exact ⟨v, (hb.block B (lt_of_block hv)).trans hv, h2.below hb, hn⟩
/-- A buffer stays, where two other blocks alone turn. -/
theorem IsBuf.other {S : List Nat} (h : IsBuf w B g l e) (ho : OnlyS S w u) (h1 : B ∉ S) (h2 : g ∉ S) : IsBuf u B g l e := by
  obtain ⟨v, hv, hb, hn⟩ := h
  refine ⟨v, (ho.block B (lt_of_block hv) h1).trans hv, ?_, hn⟩
  rcases hb with hb | ⟨off, cap, cur, a1, a2, a3⟩
  · exact .inl hb
  · exact .inr ⟨off, cap, cur, a1, (ho.block g (lt_of_block a2) h2).trans a2, a3⟩
theorem frozen_of_block {w : World} {B : Nat} {cs : Array Value} {t : TypeId} (h : w.heap[B]? = some (.cells cs t (0, 0))) (i : Nat) : w.frozen? ⟨B, i, none⟩ = false := by simp [World.frozen?, h]

theorem bnew_any (w : World) : Calls Try.prog 29 #[] w fun e w' => e = .returned (.pointer (some ⟨w.heap.size, 0, none⟩)) ∧ (∀ g, g ≠ w.heap.size → IsBuf w' w.heap.size g [] 0) ∧ Below w.heap.size w w' := by
  go_enter Try.func29, Try.ntmps29
  go_wp2
  go_ret
  exact ⟨rfl, fun g hg => ⟨_, heap_alloc_new _ _, .inl ⟨rfl, rfl⟩, fun h => hg h.symm⟩, (Below.refl _ _).alloc (Nat.le_refl _) _⟩

theorem blen_nil (w : World) : Calls Try.prog 32 #[.pointer none] w fun e w' => e = .returned (.int .i64 0) ∧ w = w' := by
  go_enter Try.func32, Try.ntmps32
  go_wp2
  go_ret
  exact ⟨rfl, rfl⟩
theorem blen_any (h : IsBuf w B g l e) : Calls Try.prog 32 #[.pointer (some ⟨B, 0, none⟩)] w fun e w' => e = .returned (.int .i64 l.length) ∧ w = w' := by
  obtain ⟨v, hv, hb, hn⟩ := h
  have hc : w.cell? ⟨B, 0, none⟩ = some v := cell_of_row w B 0 _ _ _ hv
  rcases hb with ⟨rfl, rfl⟩ | ⟨off, cap, cur, rfl, _⟩
  · go_enter Try.func32, Try.ntmps32
    go_wp2
    go_ret
    exact ⟨rfl, rfl⟩
  · go_enter Try.func32, Try.ntmps32
    go_wp2
    go_ret
    exact ⟨rfl, rfl⟩
end

/-! ### Add -/
/-- Texts, one behind the other. -/
def Mt.cats (ss : List ByteArray) : List UInt8 := (ss.map fun s => s.data.toList).flatten
theorem Mt.cats_snoc (ss : List ByteArray) (k : Nat) (h : k < ss.length) : Mt.cats (ss.take (k + 1)) = Mt.cats (ss.take k) ++ (ss[k]).data.toList := by
  unfold Mt.cats
  rw [List.take_succ_eq_append_getElem h]
  simp only [List.map_append, List.flatten_append, List.map_cons, List.map_nil, List.flatten_cons, List.flatten_nil, List.append_nil]
theorem Mt.cats_le (ss : List ByteArray) (k : Nat) : (Mt.cats (ss.take k)).length ≤ (Mt.cats ss).length := by
  have h : Mt.cats ss = Mt.cats (ss.take k) ++ Mt.cats (ss.drop k) := by
    unfold Mt.cats
    rw [← List.flatten_append, ← List.map_append, List.take_append_drop]
  rw [h, List.length_append]; omega

set_option maxRecDepth 100000 in
theorem badd_any {w : World} {B g : Nat} {l : List UInt8} (h : IsBuf w B g l 0) (bs os cap : Nat) (ss : List ByteArray) (hB : bs ≠ B) (hg : bs ≠ g)
    (hc : ∀ i (hi : i < ss.length), w.cell? ⟨bs, os + i, none⟩ = some (.string ss[i])) (hn : ss.length ≤ 1000) (hsz : l.length + (Mt.cats ss).length ≤ 70368744177664) :
    Calls Try.prog 30 #[.pointer (some ⟨B, 0, none⟩), .slice (some ⟨bs, os, none⟩) ss.length cap] w fun e w' => e = .returned (.tuple #[]) ∧ ∃ g', IsBuf w' B g' (l ++ Mt.cats ss) 0 ∧ (g' = g ∨ w.heap.size ≤ g') ∧ OnlyS [B, g] w w' := by
  have hlt := h.lt
  obtain ⟨v0, hv0, _⟩ := id h
  have hc1 : w.cell? ⟨B, 1, none⟩ = some (.int .i64 0) := cell_of_row w B 1 _ _ _ hv0
  have H0 := Lib.hid h
  have HC := Lib.hid hc
  clear hv0 h hc
  go_enter Try.func30, Try.ntmps30
  go_wp2
  go_loopw [17] (fun i wr => ∃ k : Nat, k ≤ ss.length ∧ i = .int .i64 k ∧ Hid (∃ g', IsBuf wr B g' (l ++ Mt.cats (ss.take k)) 0 ∧ (g' = g ∨ w.heap.size ≤ g') ∧ OnlyS [B, g] w wr)) (fun i _ => ss.length - (intOf i).toNat)
  case atStart => exact ⟨0, Nat.zero_le _, rfl, g, by simpa [Mt.cats] using H0.out, .inl rfl, OnlyS.refl _ _⟩
  case round =>
    obtain ⟨k, hk, rfl, HR⟩ := hrel
    by_cases hlt2 : k < ss.length
    · obtain ⟨g1, hbuf, hg1, ho⟩ := HR.out
      have hcell := HC.out k hlt2
      have hbs : bs < w.heap.size := World.block_lt_of_cell? w _ hcell
      have hcell2 : wr.cell? ⟨bs, os + k, none⟩ = some (.string ss[k]) := by rw [ho.cell (p := ⟨bs, os + k, none⟩) hbs (by simp; exact ⟨hB, hg⟩)]; exact hcell
      have hsn := Mt.cats_snoc ss k hlt2
      have hle := Mt.cats_le ss (k + 1)
      rw [hsn, List.length_append] at hle
      obtain ⟨v, hv, hby, hne⟩ := hbuf
      have hpl : (ss[k]).data.toList.length = (ss[k]).size := rfl
      obtain ⟨v', w1, g2, hrun, hby2, hg2, ho2⟩ := byt_append hby ss[k] (by rw [List.length_append]; omega)
      obtain ⟨va, vn, vc, rfl⟩ := hby2.form
      have hBlt : B < wr.heap.size := lt_of_block hv
      have hv1 : w1.heap[B]? = some (.cells #[v, .int .i64 0] 84 (0, 0)) := (ho2.block B hBlt (by simpa using hne)).trans hv
      have hneB2 : B ≠ g2 := by rcases hg2 with rfl | rfl <;> omega
      have c0 : wr.cell? ⟨B, 0, none⟩ = some v := cell_of_row wr B 0 _ _ _ hv
      have c1 : w1.cell? ⟨B, 0, none⟩ = some v := cell_of_row w1 B 0 _ _ _ hv1
      have f1 : w1.frozen? ⟨B, 0, none⟩ = false := frozen_of_block hv1 0
      have HX : Hid (∃ g', IsBuf (w1.setCell ⟨B, 0, none⟩ (.slice va vn vc)) B g' (l ++ Mt.cats (ss.take (k + 1))) 0 ∧ (g' = g ∨ w.heap.size ≤ g') ∧ OnlyS [B, g] w (w1.setCell ⟨B, 0, none⟩ (.slice va vn vc))) := by
        refine ⟨g2, ⟨.slice va vn vc, ?_, ?_, hneB2⟩, ?_, ?_⟩
        · rw [heap_setCell_same _ _ _ _ _ _ hv1]; rfl
        · rw [hsn, ← List.append_assoc]; exact hby2.kept (heap_setCell_other _ _ _ _ (fun e => hneB2 e.symm))
        · have := ho.size
          rcases hg2 with rfl | rfl
          · exact hg1
          · exact .inr this
        · have h12 : OnlyS [B, g] w w1 := by
            refine ⟨ho2.os.trans ho.os, ho2.tape.trans ho.tape, ho2.output.trans ho.output, Nat.le_trans ho.size ho2.size, fun j hj hjS => ?_⟩
            have hj1 : j ∉ [g1] := by
              simp at hjS ⊢
              rcases hg1 with rfl | hg1
              · exact hjS.2
              · omega
            exact (ho2.block j (Nat.lt_of_lt_of_le hj ho.size) hj1).trans (ho.block j hj hjS)
          exact h12.setCell (by simp) _
      clear hsn hle hv hby hne hpl hby2 hg2 ho2 hv1 hneB2 hcell HR hg1 ho hBlt
      go_wp2_with (at_builtin; refine wpList_append_run rfl _ _ 54 9 rfl _ _ rfl rfl hrun ?_)
      go_roundw
      case rel => exact ⟨k + 1, by omega, by go_num, HX⟩
      case measure => simp [intOf]; omega
    · go_wp2
      obtain rfl : k = ss.length := by omega
      rw [List.take_length] at HR
      refine bodyPost_end (results_none rfl _ _ _) rfl ?_
      exact ⟨rfl, HR.out⟩
theorem badd_nil (v : Value) (w : World) : Calls Try.prog 30 #[.pointer none, v] w fun e w' => e = .returned (.tuple #[]) ∧ w = w' := by
  go_enter Try.func30, Try.ntmps30
  go_wp2
  refine bodyPost_ret (results_none rfl _ _ _) rfl ?_
  exact ⟨rfl, rfl⟩
theorem badd_bad {w : World} {B g : Nat} {l : List UInt8} {e : Nat} (h : IsBuf w B g l e) (he : e ≠ 0) (v : Value) : Calls Try.prog 30 #[.pointer (some ⟨B, 0, none⟩), v] w fun e w' => e = .returned (.tuple #[]) ∧ w = w' := by
  obtain ⟨v0, hv0, _⟩ := h
  have hc1 : w.cell? ⟨B, 1, none⟩ = some (.int .i64 e) := cell_of_row w B 1 _ _ _ hv0
  have h1 : ((e : Int) != 0) = true := by simp; omega
  have h1b : ((e : Int) == 0) = false := by simp; omega
  clear hv0
  go_enter Try.func30, Try.ntmps30
  go_wp2
  refine bodyPost_ret (results_none rfl _ _ _) rfl ?_
  exact ⟨rfl, rfl⟩

/-! ### take -/
set_option maxRecDepth 100000 in
theorem btake_any {w : World} {B g : Nat} {l : List UInt8} (h : IsBuf w B g l 0) (n : Nat) (h0 : 0 < n) (hn : n ≤ l.length) (hl : l.length ≤ 140737488351232) :
    Calls Try.prog 45 #[.pointer (some ⟨B, 0, none⟩), .int .i64 n] w fun e w' => e = .returned (.string (Mt.str (l.take n))) ∧ IsBuf w' B g (l.drop n) 0 ∧ OnlyS [B] w w' := by
  obtain ⟨v, hv, hb, hne⟩ := h
  rcases hb with ⟨rfl, rfl⟩ | ⟨off, cap, cur, rfl, hg, hcap, hcur, hcs⟩
  · simp at hn; omega
  have hcv := byt_text (cap := cap) hg hcs hn
  have c0 : w.cell? ⟨B, 0, none⟩ = some (.slice (some ⟨g, off, none⟩) l.length cap) := cell_of_row w B 0 _ _ _ hv
  have f0 := frozen_of_block hv 0
  have hn1 : (n : Int) ≤ cap := by omega
  have hn2 : n ≤ cap := by omega
  have hnl : (n : Int) ≤ l.length := by omega
  have HV := Lib.hid hv
  have HG := Lib.hid hg
  have HCS := Lib.hid hcs
  clear hv hg hcs
  by_cases hall : l.length = n
  · have hz : (((l.length - n : Nat) : Int) == 0) = true := by simp; omega
    have hdrop : l.drop n = [] := List.drop_of_length_le (by omega)
    have HD := Lib.hid hdrop
    have HA := Lib.hid hall
    clear hdrop hall
    go_enter Try.func45, Try.ntmps45
    go_wp2
    all_goals
      go_ret
      refine ⟨rfl, ⟨.slice none 0 0, ?_, .inl ⟨HD.out, rfl⟩, hne⟩, ?_⟩
      · first
        | (rw [heap_setCell_same _ _ _ _ _ _ HV.out]; rfl)
        | (rw [heap_setCell_same _ _ _ _ _ _ (heap_setCell_same _ _ _ _ _ _ HV.out)]; rfl)
      · first
        | exact (OnlyS.refl _ _).setCell (by simp) _
        | exact ((OnlyS.refl _ _).setCell (by simp) _).setCell (by simp) _
  · have hz : (((l.length - n : Nat) : Int) == 0) = false := by simp; omega
    have hcn : (cap = n) = False := by simp; omega
    have HB : Hid (IsByt w g (.slice (some ⟨g, off + n, none⟩) (l.length - n) (cap - n)) (l.drop n)) := by
      refine .inr ⟨off + n, cap - n, cur, by rw [List.length_drop], HG.out, by rw [List.length_drop]; omega, by omega, fun j hj => ?_⟩
      rw [List.length_drop] at hj
      have := HCS.out (n + j) (by omega)
      rw [show off + n + j = off + (n + j) by omega, this, List.getElem_drop]
    go_enter Try.func45, Try.ntmps45
    go_wp2
    go_ret
    refine ⟨rfl, ⟨.slice (some ⟨g, off + n, none⟩) (l.length - n) (cap - n), ?_, ?_, hne⟩, (OnlyS.refl _ _).setCell (by simp) _⟩
    rotate_left
    · exact HB.out.kept (heap_setCell_other _ _ _ _ (fun e => hne e.symm))
    · rw [heap_setCell_same _ _ _ _ _ _ HV.out]; rfl
end Go.Proofs.Ytfnggifadhploaa
