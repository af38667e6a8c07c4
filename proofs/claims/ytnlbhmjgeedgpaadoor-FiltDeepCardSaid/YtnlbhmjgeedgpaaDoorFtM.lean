/-
  Whether a filter may be: what filt.Check comes to.
-/
import Derived.Test.YtnlbhmjgeedgpaaDoorFtL
set_option linter.unusedVariables false
set_option linter.unusedSimpArgs false
namespace Go.Proofs.YtnlbhmjgeedgpaaDoor
open Go.RowKit

/-! ### plain -/
def Mt.brN (k : Int) : Bool := decide (k = 0 ∨ k = 1 ∨ k = 2)
def Mt.leafE (f : Mt.Fl) : Nat := if f.kind < 0 ∨ 8 < f.kind then 24 else if Mt.typL f.attr = false then 20 else if f.kind = 4 ∧ Mt.soundB f.pcs = false then 4 else 0
def Mt.chkAll (p : Nat → Mt.Fl → Except Nat Nat) : Nat → List Mt.Fl → Except Nat Nat
  | n, [] => .ok n
  | n, f :: r => match p n f with
    | .error e => .error e
    | .ok m => Mt.chkAll p m r
def Mt.leafK (n : Nat) (f : Mt.Fl) : Except Nat Nat := if Mt.leafE f = 0 then .ok n else .error (Mt.leafE f)
def Mt.chkF : Nat → Nat → Mt.Fl → Except Nat Nat
  | 0, _, _ => .error 6
  | g + 1, n, f => if 1000 ≤ n then .error 9 else if Mt.brN f.kind = true then (if f.kind = 2 ∧ f.kids.length ≠ 1 then .error 2 else Mt.chkAll (Mt.chkF g) (n + 1) f.kids) else Mt.leafK (n + 1) f
def Mt.errE : Except Nat Nat → Nat
  | .error e => e
  | .ok _ => 0

/-! ### sign, branch -/
def Mt.signS (k : Int) : List UInt8 := if k = 0 then [38] else if k = 1 then [124] else if k = 2 then [33] else if k = 3 ∨ k = 4 ∨ k = 7 then [61] else if k = 5 then [62, 61] else if k = 6 then [60, 61] else if k = 8 then [126, 61] else []
theorem Mt.kind_cases (k : Int) : k = 0 ∨ k = 1 ∨ k = 2 ∨ k = 3 ∨ k = 4 ∨ k = 5 ∨ k = 6 ∨ k = 7 ∨ k = 8 ∨ (k < 0 ∨ 8 < k) := by omega
theorem sign10_any (k : Int) (w : World) : Calls Tryd.prog 39 #[.int .i64 k] w fun e w' => e = .returned (.string (Mt.str (Mt.signS k))) ∧ w = w' := by
  rcases Mt.kind_cases k with rfl | rfl | rfl | rfl | rfl | rfl | rfl | rfl | rfl | h
  case inr.inr.inr.inr.inr.inr.inr.inr.inr =>
    have e : Mt.signS k = [] := by unfold Mt.signS; rw [if_neg (by omega), if_neg (by omega), if_neg (by omega), if_neg (by omega), if_neg (by omega), if_neg (by omega), if_neg (by omega)]
    rw [e]
    have h0 : (k == 0) = false := by simp; omega
    have h1 : (k == 1) = false := by simp; omega
    have h2 : (k == 2) = false := by simp; omega
    have h3 : (k == 3) = false := by simp; omega
    have h4 : (k == 4) = false := by simp; omega
    have h5 : (k == 5) = false := by simp; omega
    have h6 : (k == 6) = false := by simp; omega
    have h7 : (k == 7) = false := by simp; omega
    have h8 : (k == 8) = false := by simp; omega
    clear h e
    go_enter Tryd.func39, Tryd.ntmps39
    go_wp2
    go_ret
    exact ⟨rfl, rfl⟩
  all_goals
    go_enter Tryd.func39, Tryd.ntmps39
    go_wp2
    go_ret
    exact ⟨rfl, rfl⟩
theorem branch10_any (k : Int) (w : World) : Calls Tryd.prog 38 #[.int .i64 k] w fun e w' => e = .returned (.bool (Mt.brN k)) ∧ w = w' := by
  by_cases h0 : k = 0
  · subst h0
    go_enter Tryd.func38, Tryd.ntmps38
    go_wp2
    go_ret
    exact ⟨rfl, rfl⟩
  · by_cases h1 : k = 1
    · subst h1
      go_enter Tryd.func38, Tryd.ntmps38
      go_wp2
      go_ret
      exact ⟨rfl, rfl⟩
    · have e : Mt.brN k = (k == 2) := by unfold Mt.brN; rw [Bool.eq_iff_iff]; simp; omega
      rw [e]
      have b0 : (k == 0) = false := by simpa using h0
      have b1 : (k == 1) = false := by simpa using h1
      obtain ⟨z, hz⟩ : ∃ z, (k == 2) = z := ⟨_, rfl⟩
      rw [hz]
      clear h0 h1 e
      go_enter Tryd.func38, Tryd.ntmps38
      go_wp2
      go_ret
      exact ⟨rfl, rfl⟩

/-! ### checkLeaf -/
theorem IsPcA.isPcs {w : World} {ok : Nat → Prop} {a : Option Addr} {ps : List Mt.Pc} (h : IsPcA w ok a ps) (c : Nat) : IsPcs w (.slice a ps.length c) ps := by
  refine ⟨a, c, rfl, Lib.hid fun j hj => ?_⟩
  rcases h with h | ⟨b, off, rfl, hb, hc⟩
  · subst h; simp at hj
  · exact ⟨b, off, rfl, World.block_lt_of_cell? w _ (hc j hj).1, (hc j hj).1, (hc j hj).2⟩
set_option maxRecDepth 100000 in
set_option maxHeartbeats 1000000 in
theorem checkLeaf10_any (f : Mt.Fl) (pa : Option Addr) (pc : Nat) (a : Option Addr) (c : Nat) (w : World) (hbr : Mt.brN f.kind = false) (hok : Mt.FlOk f) (hp : IsPcs w (.slice pa f.pcs.length pc) f.pcs) :
    Calls Tryd.prog 42 #[flV f pa pc a c] w fun e w' => e = .returned (.int .i64 (Mt.leafE f : Int)) ∧ Below w.heap.size w w' := by
  obtain ⟨kind, attr, value, pcs, kids⟩ := f
  have hL : Mt.leafE (.mk kind attr value pcs kids) = if kind < 0 ∨ 8 < kind then 24 else if Mt.typL attr = false then 20 else if kind = 4 ∧ Mt.soundB pcs = false then 4 else 0 := rfl
  rw [hL]
  simp only [Mt.Fl.kind, Mt.Fl.attr, Mt.Fl.value, Mt.Fl.pcs, Mt.Fl.kids, flV] at hbr hp ⊢
  clear hL
  have HPC := Lib.hid hp
  have HOK := Lib.hid hok
  have HS := Lib.hid (fun u => sign10_any kind u)
  have HT := Lib.hid (fun u => type_any (Mt.str attr) u)
  rw [Mt.str_data] at HT
  obtain ⟨w1, hw1⟩ : ∃ u, w.alloc (.cells #[.int .i64 kind, .string (Mt.str attr), .string (Mt.str value), .slice pa pcs.length pc, .slice a kids.length c] 25) = u := ⟨_, rfl⟩
  have hg1 : w1.heap[w.heap.size]? = some (.cells #[.int .i64 kind, .string (Mt.str attr), .string (Mt.str value), .slice pa pcs.length pc, .slice a kids.length c] 25) := by rw [← hw1]; exact heap_alloc_new w _
  have hb1 : Below w.heap.size w w1 := by rw [← hw1]; exact (Below.refl _ w).alloc (Nat.le_refl _) _
  have HG1 := Lib.hid hg1
  have HB1 := Lib.hid hb1
  clear hg1 hb1 hp hok
  by_cases hr : kind < 0 ∨ 8 < kind
  · have e : Mt.signS kind = [] := by unfold Mt.signS; rw [if_neg (by omega), if_neg (by omega), if_neg (by omega), if_neg (by omega), if_neg (by omega), if_neg (by omega), if_neg (by omega)]
    rw [e] at HS
    rw [if_pos hr]
    have he : Mt.str [] = ⟨#[]⟩ := rfl
    rw [he] at HS
    clear hr e he
    go_enter Tryd.func42, Tryd.ntmps42
    go_upto_region 1 with fail
    clear hw1
    obtain ⟨⟨x0, x1, x2, x3, x4⟩, -⟩ := box5F HG1.out
    go_wp2_with fail
    refine (HS.out _).mono ?_
    rintro e w2 ⟨rfl, rfl⟩
    go_wp2_with fail
    go_ret
    exact ⟨rfl, HB1.out⟩
  · rw [if_neg hr]
    have hne : (Mt.str (Mt.signS kind)).toList.isEmpty = false := by
      rw [ByteArray.toList_eq, Mt.str_data]
      have : kind ≠ 0 ∧ kind ≠ 1 ∧ kind ≠ 2 := by unfold Mt.brN at hbr; have := of_decide_eq_false hbr; omega
      have h9 : kind = 3 ∨ kind = 4 ∨ kind = 5 ∨ kind = 6 ∨ kind = 7 ∨ kind = 8 := by omega
      rcases h9 with rfl | rfl | rfl | rfl | rfl | rfl <;> rfl
    generalize Mt.str (Mt.signS kind) = sg at HS hne
    obtain ⟨zt, hzt⟩ : ∃ z, Mt.typL attr = z := ⟨_, rfl⟩
    rw [hzt] at HT ⊢
    clear hr hzt
    cases zt with
    | false =>
      rw [if_pos rfl]
      go_enter Tryd.func42, Tryd.ntmps42
      go_upto_region 1 with fail
      clear hw1
      obtain ⟨⟨x0, x1, x2, x3, x4⟩, -⟩ := box5F HG1.out
      go_wp2_with fail
      refine (HS.out _).mono ?_
      rintro e w2 ⟨rfl, rfl⟩
      go_wp2_with fail
      refine (HT.out _).mono ?_
      rintro e w2 ⟨rfl, hb2⟩
      have HB2 := Lib.hid (HB1.out.trans (hb2.mono HB1.out.size))
      clear hb2
      go_wp2_with fail
      go_ret
      exact ⟨rfl, HB2.out⟩
    | true =>
      rw [if_neg (by decide)]
      by_cases h4 : kind = 4
      · subst h4
        obtain ⟨zs, hzs⟩ : ∃ z, Mt.soundB pcs = z := ⟨_, rfl⟩
        have HSO : Hid (∀ u, Below w.heap.size w u → Calls Tryd.prog 55 #[.slice pa pcs.length pc] u fun e w' => e = .returned (.bool zs) ∧ Below u.heap.size u w') := Lib.hid (fun u hu => by rw [← hzs]; exact sound10_any (HPC.out.below hu) (Nat.le_trans HOK.out.pcs (by decide)))
        have e4 : (if (4 : Int) = 4 ∧ Mt.soundB pcs = false then 4 else 0 : Nat) = if zs = false then 4 else 0 := by rw [hzs]; simp
        rw [e4]
        clear e4 hzs
        go_enter Tryd.func42, Tryd.ntmps42
        go_upto_region 1 with fail
        clear hw1
        obtain ⟨⟨x0, x1, x2, x3, x4⟩, -⟩ := box5F HG1.out
        go_wp2_with fail
        refine (HS.out _).mono ?_
        rintro e w2 ⟨rfl, rfl⟩
        go_wp2_with fail
        refine (HT.out _).mono ?_
        rintro e w2 ⟨rfl, hb2⟩
        have HB2 := Lib.hid (HB1.out.trans (hb2.mono HB1.out.size))
        have HG2 := Lib.hid ((hb2.block _ (lt_of_block HG1.out)).trans HG1.out)
        clear hb2 x0 x1 x2 x3 x4
        obtain ⟨⟨x0, x1, x2, x3, x4⟩, -⟩ := box5F HG2.out
        go_wp2_with fail
        refine (HSO.out _ HB2.out).mono ?_
        rintro e w3 ⟨rfl, hb3⟩
        have HB3 := Lib.hid (HB2.out.trans (hb3.mono HB2.out.size))
        clear hb3
        cases zs
        all_goals
          go_wp2_with fail
          go_ret
          exact ⟨rfl, HB3.out⟩
      · have e4 : (if kind = 4 ∧ Mt.soundB pcs = false then 4 else 0 : Nat) = 0 := if_neg (fun h => h4 h.1)
        rw [e4]
        have b4 : (kind == 4) = false := by simpa using h4
        clear e4 h4
        go_enter Tryd.func42, Tryd.ntmps42
        go_upto_region 1 with fail
        clear hw1
        obtain ⟨⟨x0, x1, x2, x3, x4⟩, -⟩ := box5F HG1.out
        go_wp2_with fail
        refine (HS.out _).mono ?_
        rintro e w2 ⟨rfl, rfl⟩
        go_wp2_with fail
        refine (HT.out _).mono ?_
        rintro e w2 ⟨rfl, hb2⟩
        have HB2 := Lib.hid (HB1.out.trans (hb2.mono HB1.out.size))
        have HG2 := Lib.hid ((hb2.block _ (lt_of_block HG1.out)).trans HG1.out)
        clear hb2 x0 x1 x2 x3 x4
        obtain ⟨⟨x0, x1, x2, x3, x4⟩, -⟩ := box5F HG2.out
        go_wp2_with fail
        go_ret
        exact ⟨rfl, HB2.out⟩
end Go.Proofs.YtnlbhmjgeedgpaaDoor
