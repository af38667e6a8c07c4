/-
  What the document's primes come to.
-/
import Derived.Test.YtpdionmecflibaaDoorKeys
import Derived.Test.YtpdionmecflibaaDoorEnd
import Derived.OwnWalk
namespace Go.Proofs.YtpdionmecflibaaDoor
open Go.RowKit

theorem Tryd.infoU64 : (Tryd.prog.info? 34).map (fun i => (i.zero, i.size, i.bytes)) = some (some (.int .u64 0), 1, 8) := by kernel_rfl
theorem Tryd.infoU32 : (Tryd.prog.info? 53).map (fun i => (i.zero, i.size, i.bytes)) = some (some (.int .u32 0), 1, 4) := by kernel_rfl

/-- Numbers in a slice. -/
def Mt.c64 (l : List Nat) : List Value := l.map fun (x : Nat) => Value.int .u64 (x : Int)
def Mt.c32 (l : List Nat) : List Value := l.map fun (x : Nat) => Value.int .u32 (x : Int)

/-- A slice of the call's own: its head, and its cells. -/
theorem own_any {w : World} {b : Nat} {e : TypeId} {v : Value} {n : Nat} {xs : List Value} (h : w.ownsRow b e 1 v n xs) :
    ∃ ad cap, v = .slice ad n cap ∧ ∀ i, i < n → ∃ g, ad = some ⟨g, 0, none⟩ ∧ b ≤ g ∧ g < w.heap.size ∧ w.cell? ⟨g, i, none⟩ = xs[i]? := by
  rcases h.2 with ⟨rfl, rfl⟩ | ⟨g, cap, cur, rfl, hb, _⟩
  · exact ⟨none, 0, rfl, fun i hi => by omega⟩
  · refine ⟨_, cap, rfl, fun i hi => ⟨g, rfl, hb, (h.lt g rfl).2, h.cellAt i (by omega)⟩⟩
theorem Mt.c64_get (l : List Nat) (i : Nat) (h : i < l.length) : (Mt.c64 l)[i]? = some (.int .u64 ((l.getD i 0 : Nat) : Int)) := by
  simp [Mt.c64, List.getD, List.getElem?_eq_getElem h]
theorem Mt.c32_get (l : List Nat) (i : Nat) (h : i < l.length) : (Mt.c32 l)[i]? = some (.int .u32 ((l.getD i 0 : Nat) : Int)) := by
  simp [Mt.c32, List.getD, List.getElem?_eq_getElem h]
theorem Mt.all_take (l : List Nat) (f : Nat → Bool) (i : Nat) (h : i < l.length) : (l.take (i + 1)).all f = ((l.take i).all f && f (l.getD i 0)) := by
  rw [List.take_succ_eq_append_getElem h, List.all_append]
  simp [List.getD, List.getElem?_eq_getElem h]

set_option maxHeartbeats 800000 in
set_option maxRecDepth 100000 in
theorem primes_any (w : World) : Calls Tryd.prog 20 #[.int .i64 64] w fun e w' => ∃ v, e = .returned v ∧ w'.ownsRow w.heap.size 34 1 v 64 (Mt.c64 (Mt.pl 310)) ∧ Below w.heap.size w w' := by
  obtain ⟨i0, hi, hz0, hz1, hz2⟩ := info_parts Tryd.infoU64
  go_enter Tryd.func20, Tryd.ntmps20
  go_wp2_with fail
  go_loopw [3, 4] (fun v p wr => ∃ (k n : Nat), k ≤ 310 ∧ p = .int .u64 ((k : Int) + 2) ∧ Hid ((Mt.pl k).length = n) ∧ Hid (wr.ownsRow w.heap.size 34 1 v n (Mt.c64 (Mt.pl k))) ∧ Hid (Below w.heap.size w wr)) (fun _ p _ => 400 - (intOf p).toNat)
  case atStart => exact ⟨0, 0, by omega, rfl, Lib.hid rfl, Lib.hid (World.ownsRow_nil _ _ _ _), Lib.hid (Below.refl _ _)⟩
  case round =>
    obtain ⟨k, n, hk, rfl, HN, HO, HB⟩ := hrel
    have HPS := Lib.hid (Mt.pl_pos k)
    by_cases hk9 : k ≤ 309
    · have hn63 : n ≤ 63 := by rw [← HN.out]; exact Mt.pl_63 k hk9
      have hn' : (n : Int) < 64 := by omega
      obtain ⟨ad, cap, rfl, hc⟩ := own_any HO.out
      have HC := Lib.hid hc
      clear hc
      go_wp2_with fail
      go_loop [5, 16] (fun b i => ∃ j : Nat, j ≤ n ∧ i = .int .i64 j ∧ b = .bool (((Mt.pl k).take j).all (fun q => (k + 2) % q != 0))) (fun _ i => n - (intOf i).toNat)
      case atStart => exact ⟨0, by omega, rfl, rfl⟩
      case round =>
        obtain ⟨j, hj, rfl, rfl⟩ := hrel
        by_cases hjn : j < n
        · have hjn' : (j : Int) < n := by omega
          obtain ⟨g, rfl, _, _, hcell⟩ := HC.out j hjn
          have hjl : j < (Mt.pl k).length := by rw [HN.out]; exact hjn
          rw [Mt.c64_get _ _ hjl] at hcell
          have HAT := Lib.hid (Mt.all_take (Mt.pl k) (fun q => (k + 2) % q != 0) j hjl)
          have hqm : (Mt.pl k).getD j 0 ∈ Mt.pl k := by simp [List.getD, List.getElem?_eq_getElem hjl]
          have hq2 := (HPS.out _ hqm).1
          generalize (Mt.pl k).getD j 0 = q at hcell HAT hq2
          have hq0 : ((q : Int) == 0) = false := by simp; omega
          have hm1 : ((k : Int) + 2).tmod (q : Int) = (((k + 2) % q : Nat) : Int) := by
            rw [Int.tmod_eq_emod_of_nonneg (by omega), Int.natCast_emod]; rfl
          obtain ⟨r, hr⟩ : ∃ r, (k + 2) % q = r := ⟨_, rfl⟩
          rw [hr] at hm1
          have HAT2 : Hid (((Mt.pl k).take (j + 1)).all (fun q => (k + 2) % q != 0) = (((Mt.pl k).take j).all (fun q => (k + 2) % q != 0) && (r != 0))) := Lib.hid (by rw [HAT.out]; simp only [hr])
          clear HAT hqm hr
          have hqpos : (0 : Int) < (q : Int) := by omega
          cases hb : ((Mt.pl k).take j).all (fun q => (k + 2) % q != 0)
          · rw [hb] at HAT2
            go_wp2_with fail
            go_round
            case rel => exact ⟨j + 1, by omega, by go_num, by rw [HAT2.out]; rfl⟩
            case measure => simp [intOf]; omega
          · rw [hb] at HAT2
            go_wp2_with fail
            go_round
            case rel => exact ⟨j + 1, by omega, by go_num, by rw [HAT2.out]; congr 1; rw [Bool.true_and, Bool.eq_iff_iff]; simp⟩
            case measure => simp [intOf]; omega
        · obtain rfl : j = n := by omega
          have hjn' : decide ((j : Int) < j) = false := by simp
          have HALL := Lib.hid (show (Mt.pl k).take j = Mt.pl k from List.take_of_length_le (by rw [HN.out]; exact Nat.le_refl _))
          rw [HALL.out]
          have HPL := Lib.hid (show Mt.pl (k + 1) = if (Mt.pl k).all (fun q => (k + 2) % q != 0) then Mt.pl k ++ [k + 2] else Mt.pl k from rfl)
          cases hb : (Mt.pl k).all (fun q => (k + 2) % q != 0)
          · rw [hb] at HPL
            go_wp2_with fail
            go_roundw
            case rel => exact ⟨k + 1, j, by omega, by go_num, Lib.hid (by rw [HPL.out]; exact HN.out), Lib.hid (by rw [HPL.out]; exact HO.out), HB⟩
            case measure => simp [intOf]; omega
          · rw [hb] at HPL
            have hsz := HB.out.size
            have hown := HO.out
            clear hb
            go_wp2_with (at_builtin; refine wpList_append_own _ rfl _ _ 50 rfl w.heap.size 34 i0 (.int .u64 0) 1 8 Tryd.underlying50 hi hz0 hz1 hz2 rfl (by decide) _ _ _ rfl (hown.alloc _) ⟨wr.heap.size, 0, none⟩ 1 1 [.int .u64 ((k : Int) + 2)] rfl rfl (cell_one_new _ _ _) (by simp [Value.oneCell']) (by unfold maxLen; omega) (by omega) (by simp; omega) ?_; intro v1 w1 hown1 hgr1 _)
            have HB1 : Hid (Below w.heap.size w w1) := Lib.hid ((HB.out.alloc (by omega) _).grown hgr1 (by simp; omega) (fun j hj => (hown.lt j hj).1))
            have HO1 := Lib.hid hown1
            clear hgr1 hown1 hown HO HB
            go_roundw
            case rel =>
              refine ⟨k + 1, j + 1, by omega, by go_num, Lib.hid (by rw [HPL.out, if_pos rfl, List.length_append, HN.out]; rfl), Lib.hid ?_, HB1⟩
              have e : Mt.c64 (Mt.pl (k + 1)) = Mt.c64 (Mt.pl k) ++ [.int .u64 ((k : Int) + 2)] := by
                rw [HPL.out, if_pos rfl]
                simp [Mt.c64]
              rw [e]
              exact HO1.out
            case measure => simp [intOf]; omega
    · obtain rfl : k = 310 := by omega
      have hn : n = 64 := by rw [← HN.out, Mt.pl_310]
      subst hn
      obtain ⟨ad, cap, rfl, hc⟩ := own_any HO.out
      have hn' : decide ((64 : Int) < 64) = false := rfl
      clear hc
      go_wp2_with fail
      go_ret
      exact ⟨_, rfl, HO.out, HB.out⟩

/-- Two slices whose first cells differ lie in two blocks. -/
theorem own_apart {w : World} {b b' : Nat} {e e' : TypeId} {v u : Value} {n m : Nat} {xs ys : List Value} (h : w.ownsRow b e 1 v n xs) (h' : w.ownsRow b' e' 1 u m ys) (hn : 0 < n) (hm : 0 < m) (hd : xs[0]? ≠ ys[0]?) :
    u.ownBlock = none ∨ u.ownBlock ≠ v.ownBlock := by
  obtain ⟨g, cap, rfl⟩ := own_form h' hm
  obtain ⟨g2, cap2, rfl⟩ := own_form h hn
  right
  intro he
  have hgg : g = g2 := by simpa [Value.ownBlock] using he
  subst hgg
  have h1 := h.cellAt 0 (by omega)
  have h2 := h'.cellAt 0 (by omega)
  exact hd (h1.symm.trans h2)

theorem map_getD (f : Nat → Nat) (l r : List Nat) (h : l.map f = r) (j : Nat) (hj : j < l.length) : f (l.getD j 0) = r.getD j 0 := by
  subst h
  simp [List.getD, List.getElem?_eq_getElem hj]
theorem take_getD (l : List Nat) (n j : Nat) (h : j < n) : (l.take n).getD j 0 = l.getD j 0 := by
  simp only [List.getD]; rw [List.getElem?_take, if_pos h]
theorem roots_get (j : Nat) (h : j < 8) : Mt.rootN ((Mt.pl 310).getD j 0) = Mt.V0.list.getD j 0 := by
  have hl : j < ((Mt.pl 310).take 8).length := by rw [List.length_take, Mt.pl_310]; omega
  rw [← map_getD Mt.rootN _ _ Mt.roots j hl, take_getD _ 8 j h]
theorem cubes_get (j : Nat) (h : j < 64) : Mt.cubeN ((Mt.pl 310).getD j 0) = Mt.K.getD j 0 :=
  map_getD Mt.cubeN _ _ Mt.cubes j (by rw [Mt.pl_310]; exact h)
theorem Mt.c32_snoc (l : List Nat) (j : Nat) (h : j < l.length) : Mt.c32 (l.take (j + 1)) = Mt.c32 (l.take j) ++ [.int .u32 ((l.getD j 0 : Nat) : Int)] := by
  have e : l.getD j 0 = l[j] := by simp [List.getD, List.getElem?_eq_getElem h]
  rw [List.take_succ_eq_append_getElem h, e]
  unfold Mt.c32
  rw [List.map_append]; rfl

end Go.Proofs.YtpdionmecflibaaDoor
