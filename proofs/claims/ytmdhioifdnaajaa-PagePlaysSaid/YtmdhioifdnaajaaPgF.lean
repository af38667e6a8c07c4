/-
  A place taken out of a book.
-/
import Derived.Test.YtmdhioifdnaajaaPgE
set_option linter.unusedVariables false
set_option linter.unusedSimpArgs false
namespace Go.Proofs.Ytmdhioifdnaajaa
open Go.RowKit Go.Shelf Go.Maps

theorem eg_idxF26 : ∀ args w, (callFunc 15 args).run Try.prog w = .ok (.enter 15 args) w := enters_of Try.func15 (by kernel_rfl) rfl
theorem Mt.takeB_none {m : Mt.Pl → Bool} {c : Int} {L : Mt.Bk} (h : ∀ p ∈ Mt.rowB c L, m p = false) : Mt.takeB m c L = L := by
  unfold Mt.takeB
  rw [List.filter_eq_self]
  intro q hq
  by_cases e : q.1 = c
  · rw [h q.2 (Mt.rowB_mem.2 (by rw [← e]; exact hq))]; simp
  · simp [e]
theorem Mt.takeB_sub (m : Mt.Pl → Bool) (c : Int) (L : Mt.Bk) : (Mt.takeB m c L).Sublist L := List.filter_sublist
theorem Mt.took_eq (m good : Mt.Pl → Bool) (c : Int) (L : Mt.Bk) : Mt.tookB m good c L = (Mt.rowB c L).foldl (fun r p => if m p = true then (if good p = true then (p.at', true) else r) else r) (0, false) := Mt.tookB_row m good c L (0, false)
theorem ck_injB {last : Nat} (hl : last < 18446744073709551616) : ∀ n m, n ≤ last → m ≤ last → ck n = ck m → n = m := fun n m hn hm h => Mt.ck_inj (by omega) (by omega) h
/-- What is left behind when one row gets another one. -/
theorem IsBook.rowed {w u : World} {B : Nat} {S : Nat → Prop} {N last : Nat} {L M : Mt.Bk} {bm : Nat} {D : DataW Value} {g : Int → Nat} {c : Int} (h : IsBook w B S N last L) (h1 : w.heap[B]? = some (.cells #[.int .u64 (last : Int), .map (some bm)] 43)) (h2 : w.ownsMap Try.prog 3 RB bm N D) (h3 : RowsB w D g L) (h4 : S B) (h5 : S bm) (h6 : ∀ c, Mt.rowB c L ≠ [] → S (g c))
    (hM : Mt.BkOk last M) (hoth : ∀ c', c' ≠ c → Mt.rowB c' M = Mt.rowB c' L) (hne : Mt.rowB c L ≠ []) (hsz : w.heap.size ≤ u.heap.size) (hB : u.heap[B]? = w.heap[B]?) (hrows : ∀ c', c' ≠ c → Mt.rowB c' L ≠ [] → u.heap[g c']? = w.heap[g c']?)
    (hcase : (Mt.rowB c M = [] ∧ u.ownsMap Try.prog 3 RB bm (N + 1) (D.del (.int .i64 c))) ∨ ∃ v, Mt.rowB c M ≠ [] ∧ IsRw 49 4 u (g c) v (Mt.rowB c M).length (plsC (Mt.rowB c M)) ∧ u.ownsMap Try.prog 3 RB bm (N + 1) (D.put (.int .i64 c) (.held v))) :
    IsBook u B S (N + 1) last M := by
  have hS : ∀ k, S k → k < u.heap.size := fun k hk => Nat.lt_of_lt_of_le (h.lt k hk) hsz
  rcases hcase with ⟨he, ho⟩ | ⟨v, hne2, hr, ho⟩
  · refine ⟨hM, Nat.le_succ_of_le h.le, ⟨bm, _, g, hB.trans h1, ho, h3.del c he hoth hrows, h4, h5, fun c' hc' => ?_⟩, hS⟩
    by_cases e : c' = c
    · rw [e] at hc'; exact absurd he hc'
    · rw [hoth c' e] at hc'; exact h6 c' hc'
  · refine ⟨hM, Nat.le_succ_of_le h.le, ⟨bm, _, _, hB.trans h1, ho, h3.put h2.isMap c (g c) v hne2 hoth hr hrows (fun c' hc' hl e => hc' ((h3.apart c c' hne hl e).symm)), h4, h5, fun c' hc' => ?_⟩, hS⟩
    by_cases e : c' = c
    · rw [if_pos e]; exact h6 c hne
    · rw [if_neg e]
      rw [hoth c' e] at hc'
      exact h6 c' hc'
set_option maxRecDepth 100000 in
set_option maxHeartbeats 2000000 in
/-- A place taken. -/
theorem take26_any {w : World} {B : Nat} {S : Nat → Prop} {N last : Nat} {L : Mt.Bk} {c ver : Int} (s key : ByteArray) (hc : (Lit.int .i64 c).wf = true) (hN : N ≤ 100000) (h : IsBook w B S N last L) :
    Calls Try.prog 6 #[.pointer (some ⟨B, 0, none⟩), .int .i64 c, .string s, .string key, .int .i64 ver] w fun e w' =>
      e = .returned (.tuple #[.int .i64 (Mt.tookB (fun p => decide (ck p.num = s)) (fun p => decide (p.key = key) && decide (p.ver = ver)) c L).1, .bool (Mt.tookB (fun p => decide (ck p.num = s)) (fun p => decide (p.key = key) && decide (p.ver = ver)) c L).2]) ∧
      IsBook w' B S (N + 1) last (Mt.takeB (fun p => decide (ck p.num = s)) c L) ∧ OnlyP S w w' := by
  obtain ⟨mf, hmf⟩ : ∃ mf : Mt.Pl → Bool, (fun p => decide (ck p.num = s)) = mf := ⟨_, rfl⟩
  obtain ⟨gf, hgf⟩ : ∃ gf : Mt.Pl → Bool, (fun p => decide (p.key = key) && decide (p.ver = ver)) = gf := ⟨_, rfl⟩
  rw [hmf, hgf]
  obtain ⟨w1, hw1⟩ : ∃ u, w.alloc (.cells #[.string s] 9) = u := ⟨_, rfl⟩
  have hA : Below w.heap.size w w1 := by rw [← hw1]; exact (Below.refl _ w).alloc (Nat.le_refl _) _
  have hx1 : w1.heap[w.heap.size]? = some (.cells #[.string s] 9) := by rw [← hw1]; exact heap_alloc_new w _
  have hk1 : IsBook w1 B S N last L := h.below hA
  obtain ⟨bm, D, g, h1, h2, h3, h4, h5, h6⟩ := hk1.ex
  obtain ⟨va, vc, hlook, hrw, hat⟩ := look26 hc h2 h3
  have hn4 := hk1.ok.few c
  have hbm1 := World.ownsMap.lt h2
  have HI := Lib.hid (indexFuncPG_any hrw (by omega) 15 #[.pointer (some ⟨w.heap.size, 0, none⟩)] mf eg_idxF26 (fun u hu x _ => by
    rw [← hmf]
    exact idxF26_any x s w.heap.size (by rw [cell_of_row u w.heap.size _ _ _ _ ((hu.block _ (lt_of_block hx1)).trans hx1)]; rfl)))
  have hs := Mt.idxP_spec mf (Mt.rowB c L)
  obtain ⟨k, hk⟩ : ∃ k, Mt.idxP mf (Mt.rowB c L) = k := ⟨_, rfl⟩
  rw [hk] at HI hs
  have x1 : w1.cell? ⟨B, 1, none⟩ = some (.map (some bm)) := by rw [cell_of_row _ _ _ _ _ _ h1]; rfl
  have HA := Lib.hid hA
  have HK := Lib.hid hk1
  have HX1 := Lib.hid hx1
  have HE := Lib.hid (And.intro h1 (And.intro h2 (And.intro h3 (And.intro h4 (And.intro h5 h6)))))
  have HRW := Lib.hid hrw
  have HGF := Lib.hid (And.intro hmf hgf)
  have HC := Lib.hid hc
  have HBM := Lib.hid hbm1
  obtain ⟨R, hR⟩ : ∃ R, Mt.rowB c L = R := ⟨_, rfl⟩
  have HR := Lib.hid hR
  rw [hR] at HI hs hlook hn4 HRW
  rcases hs with ⟨rfl, hall⟩ | ⟨i, rfl, hi, hmi, hbef⟩
  · have HT : Hid (Mt.tookB mf gf c L = (0, false) ∧ Mt.takeB mf c L = L) := Lib.hid (by
      have hmem : ∀ p ∈ Mt.rowB c L, mf p = false := fun p hp => by
        rw [hR] at hp
        obtain ⟨j, hj, rfl⟩ := List.mem_iff_getElem.1 hp
        exact hall j hj
      exact ⟨by rw [Mt.took_eq]; exact Mt.took_none _ _ hmem, Mt.takeB_none hmem⟩)
    rw [HT.out.1, HT.out.2]
    have d1 : decide ((-1 : Int) < 0) = true := rfl
    clear h hA hx1 hk1 h1 h2 h3 h4 h5 h6 hrw hat hmf hgf hall hk hR hc hbm1
    generalize R.length = n at *
    go_enter Try.func6, Try.ntmps6
    go_upto_region 4 with fail
    clear hw1
    go_wp2_with fail
    refine (HI.out).mono ?_
    rintro e w2 ⟨rfl, hb⟩
    have HF : Hid (IsBook w2 B S (N + 1) last L ∧ OnlyP S w w2) := Lib.hid (by
      have hk2 := HK.out.below hb
      obtain ⟨bm2, D2, g2, a1, a2, a3⟩ := hk2.ex
      exact ⟨⟨hk2.ok, Nat.le_succ_of_le hk2.le, ⟨bm2, D2, g2, a1, a2.mono (Nat.le_succ _), a3⟩, hk2.lt⟩, belowToP (HA.out.trans (hb.mono HA.out.size))⟩)
    clear hb
    go_wp2_with fail
    all_goals (go_ret2; exact ⟨rfl, HF.out⟩)
  · have hlast : last < 18446744073709551616 := by have := hk1.le; omega
    have hone : ∀ j (hj : j < R.length), j ≠ i → mf R[j] = false := fun j hj hne => by
      cases hq : mf R[j] with
      | false => rfl
      | true =>
        have hi2 : i < (Mt.rowB c L).length := by rw [hR]; exact hi
        have hj2 : j < (Mt.rowB c L).length := by rw [hR]; exact hj
        refine absurd (hk1.ok.one c (ck_injB hlast) (s := s) hj2 hi2 ?_ ?_) hne
        · have : mf (Mt.rowB c L)[j] = true := by simp only [hR]; exact hq
          rw [← hmf] at this; exact this
        · have : mf (Mt.rowB c L)[i] = true := by simp only [hR]; exact hmi
          rw [← hmf] at this; exact this
    have hrowM : Mt.rowB c (Mt.takeB mf c L) = R.take i ++ R.drop (i + 1) := by rw [Mt.takeB_same, hR, Mt.filter_one hi hmi hone]
    have htk : Mt.tookB mf gf c L = if gf R[i] = true then (R[i].at', true) else (0, false) := by rw [Mt.took_eq, hR]; exact Mt.took_one hi hmi hone
    obtain ⟨P, hP⟩ : ∃ P, R[i] = P := ⟨_, rfl⟩
    rw [hP] at htk
    obtain ⟨pn, pk, pv, pa⟩ := P
    obtain ⟨q, hq⟩ : ∃ q, gf ⟨pn, pk, pv, pa⟩ = q := ⟨_, rfl⟩
    have hq2 : (decide (pk = key) && decide (pv = ver)) = q := by rw [← hq, ← hgf]
    rw [hq] at htk
    have hne : ∀ u : World, (binOp .neq 47 (.agg #[.string pk, .int .i64 pv]) (.agg #[.string key, .int .i64 ver])).run Try.prog u = .ok (.bool (!q)) u := fun u => by rw [neqUse, hq2]
    have hm : Try.prog.eqGuardType Try.prog.depth 47 = false := by kernel_rfl
    obtain ⟨off, cap, cur, hva, -⟩ := HRW.out.hasBlock (by omega)
    obtain ⟨rfl, rfl⟩ : va = some ⟨g c, off, none⟩ ∧ vc = cap := by injection hva with e1 e2 e3; exact ⟨e1, e3⟩
    have HPL : Hid (∀ u, Below w1.heap.size w1 u → u.cell? ⟨g c, off + i * 4, none⟩ = some (.int .u64 (pn : Int)) ∧ u.cell? ⟨g c, off + i * 4 + 1, none⟩ = some (.string pk) ∧ u.cell? ⟨g c, off + i * 4 + 2, none⟩ = some (.int .i64 pv) ∧ u.cell? ⟨g c, off + i * 4 + 3, none⟩ = some (.int .i64 pa)) := Lib.hid (fun u hu => by
      have := (HRW.out.below hu).place i hi
      rw [hP] at this
      exact this)
    have HLS : Hid ((R.take i ++ R.drop (i + 1)).length ≤ 1000) := Lib.hid (by rw [List.length_append, List.length_take, List.length_drop]; omega)
    obtain ⟨R', hR'⟩ : ∃ R', R.take i ++ R.drop (i + 1) = R' := ⟨_, rfl⟩
    have HD : Hid (∀ u, Below w1.heap.size w1 u → Calls Try.prog 18 #[.slice (some ⟨g c, off, none⟩) R.length vc, .int .i64 (i : Int), .int .i64 ((i + 1 : Nat) : Int)] u fun e w' => ∃ a cp, e = .returned (.slice a R'.length cp) ∧ IsRw 49 4 w' (g c) (.slice a R'.length cp) R'.length (plsC R') ∧ OnlyS [g c] u w') := Lib.hid (fun u hu => by rw [← hR']; exact deletePG_any (HRW.out.below hu) (by omega) i (i + 1) (by omega) (by omega))
    rw [hR'] at hrowM
    have HRM := Lib.hid hrowM
    have HLN : Hid (Mt.rowB c L ≠ []) := Lib.hid (fun e => by
      rw [hR] at e
      rw [e] at hi
      exact absurd hi (by simp))
    have i1 : (i : Int) < (R.length : Int) := by omega
    have i0 : (0 : Int) ≤ (i : Int) := by omega
    have d1 : decide ((i : Int) < 0) = false := decide_eq_false (by omega)
    have d2 : decide (i < R.length) = true := decide_eq_true hi
    have wi : wrap64 ((i : Int) + 1) = ((i + 1 : Nat) : Int) := by unfold wrap64; omega
    obtain ⟨TK, hTK⟩ : ∃ TK, Mt.tookB mf gf c L = TK := ⟨_, rfl⟩
    rw [hTK] at htk ⊢
    have HTK := Lib.hid htk
    clear hTK
    clear h hA hx1 hk1 h1 h2 h3 h4 h5 h6 hrw hat hmf hgf hk hR hc hbm1 hbef hone hrowM htk hP hq hq2 hva hR' hlast hmi
    generalize R.length = n at *
    go_enter Try.func6, Try.ntmps6
    go_upto_region 4 with fail
    clear hw1
    go_wp2_with fail
    refine (HI.out).mono ?_
    rintro e w2 ⟨rfl, hb⟩
    have HB2 := Lib.hid hb
    obtain ⟨c0, c1, c2, c3⟩ := HPL.out w2 hb
    obtain ⟨w3, hw3⟩ : ∃ u, w2.alloc (.cells #[.int .u64 (pn : Int), .string pk, .int .i64 pv, .int .i64 pa] 49) = u := ⟨_, rfl⟩
    have hA3 : Below w2.heap.size w2 w3 := by rw [← hw3]; exact (Below.refl _ w2).alloc (Nat.le_refl _) _
    have hx3 : w3.heap[w2.heap.size]? = some (.cells #[.int .u64 (pn : Int), .string pk, .int .i64 pv, .int .i64 pa] 49) := by rw [← hw3]; exact heap_alloc_new w2 _
    have HB3 := Lib.hid (hb.trans (hA3.mono hb.size))
    have HX3 := Lib.hid hx3
    have HD3 := Lib.hid (HD.out w3 HB3.out)
    clear hb hA3 hx3
    go_upto_region 8 with fail
    clear hw3 c0 c1 c2 c3 x1 hlook
    go_wp2_with fail
    refine (HD3.out).mono ?_
    rintro e w4 ⟨a4, c4, rfl, hrw4, ho4⟩
    have hkb := HK.out
    obtain ⟨h1, h2, h3, h4, h5, h6⟩ := HE.out
    have hneL := HLN.out
    have hgB : g c ≠ B := by
      intro e
      obtain ⟨v9, _, hr9⟩ := h3.row c
      obtain ⟨_, _, _, _, hb9⟩ := hr9.hasBlock (List.length_pos_iff.2 hneL)
      rw [e, h1] at hb9
      injection hb9 with hb9
      injection hb9 with _ hb9
      exact absurd hb9 (by decide)
    have hgm := h3.notMap h2 hneL
    have hB3 := HB3.out
    have hold : ∀ k, k < w1.heap.size → k ≠ g c → w4.heap[k]? = w1.heap[k]? := fun k hk hne => (ho4.block k (Nat.lt_of_lt_of_le hk hB3.size) (by simpa using hne)).trans (hB3.block k hk)
    have hB4 : w4.heap[B]? = some (.cells #[.int .u64 (last : Int), .map (some bm)] 43) := (hold B (hkb.lt B h4) (fun e => hgB e.symm)).trans h1
    have hown4 := ownsMapB_block h2 (hold bm HBM.out (fun e => hgm e.symm))
    have hx4 : w4.heap[w2.heap.size]? = some (.cells #[.int .u64 (pn : Int), .string pk, .int .i64 pv, .int .i64 pa] 49) := (ho4.block _ (lt_of_block HX3.out) (by
      have h9 : g c < w1.heap.size := by
        obtain ⟨v9, _, hr9⟩ := h3.row c
        obtain ⟨_, _, _, _, hb9⟩ := hr9.hasBlock (List.length_pos_iff.2 hneL)
        exact lt_of_block hb9
      have := HB2.out.size
      simp; omega)).trans HX3.out
    have hP14 : OnlyP S w w4 := by
      have p1 : OnlyP S w w3 := belowToP (HA.out.trans (hB3.mono HA.out.size))
      exact p1.trans (ho4.toP (S := S) (fun k hk => by simp at hk; rw [hk]; exact .inl (h6 c hneL))) (fun k hk => .inl hk)
    have HSET : Hid (Calls Try.prog 17 #[.pointer (some ⟨B, 0, none⟩), .int .i64 c, .slice a4 R'.length c4] w4 fun e w' => e = .returned (.tuple #[]) ∧ (w'.cell? ⟨w2.heap.size, 1, none⟩ = some (.string pk) ∧ w'.cell? ⟨w2.heap.size, 2, none⟩ = some (.int .i64 pv) ∧ w'.cell? ⟨w2.heap.size, 3, none⟩ = some (.int .i64 pa)) ∧ IsBook w' B S (N + 1) last (Mt.takeB mf c L) ∧ OnlyP S w w') := Lib.hid (by
      have hbm4 := World.ownsMap.lt hown4
      have hfin : ∀ u : World, w4.grownBy u (some bm) → ((Mt.rowB c (Mt.takeB mf c L) = [] ∧ u.ownsMap Try.prog 3 RB bm (N + 1) (D.del (.int .i64 c))) ∨ ∃ v, Mt.rowB c (Mt.takeB mf c L) ≠ [] ∧ IsRw 49 4 u (g c) v (Mt.rowB c (Mt.takeB mf c L)).length (plsC (Mt.rowB c (Mt.takeB mf c L))) ∧ u.ownsMap Try.prog 3 RB bm (N + 1) (D.put (.int .i64 c) (.held v))) →
          (u.cell? ⟨w2.heap.size, 1, none⟩ = some (.string pk) ∧ u.cell? ⟨w2.heap.size, 2, none⟩ = some (.int .i64 pv) ∧ u.cell? ⟨w2.heap.size, 3, none⟩ = some (.int .i64 pa)) ∧ IsBook u B S (N + 1) last (Mt.takeB mf c L) ∧ OnlyP S w u := fun u hg hcase => by
        have h2w : w2.heap.size ≠ bm := by have := HBM.out; have := HB2.out.size; omega
        have hx5 := (grownMap hg (lt_of_block hx4) h2w).trans hx4
        refine ⟨⟨(box4G hx5).2.1, (box4G hx5).2.2.1, (box4G hx5).2.2.2⟩, ?_, hP14.trans (grownP hg h5) (fun k hk => .inl hk)⟩
        refine IsBook.rowed (w := w1) (c := c) hkb h1 h2 h3 h4 h5 h6 (hkb.ok.sub (Mt.takeB_sub _ _ _)) (fun c' hc' => Mt.takeB_other _ hc' L) hneL (Nat.le_trans hB3.size (Nat.le_trans ho4.size hg.size)) ?_ (fun c' hc' hl => ?_) hcase
        · rw [grownMap hg (lt_of_block hB4) (fun e => ownsMapB_ne hown4 hB4 e.symm), hB4, h1]
        · have hgl := hkb.lt _ (h6 c' hl)
          rw [grownMap hg (Nat.lt_of_lt_of_le hgl (Nat.le_trans hB3.size ho4.size)) (h3.notMap h2 hl)]
          exact hold _ hgl (fun e => hc' (h3.apart c' c hl hneL e))
      rcases Nat.eq_zero_or_pos R'.length with h0 | h0
      · rw [h0]
        have hnil : R' = [] := List.eq_nil_of_length_eq_zero h0
        exact (setNil26_any HC.out hB4 hown4 a4 c4).mono fun e u ⟨e1, ho, hg⟩ => ⟨e1, hfin u hg (.inl ⟨by rw [HRM.out, hnil], ho.mono (Nat.le_succ _)⟩)⟩
      · exact (setRow26_any HC.out (by omega) hB4 hown4 a4 R'.length c4 h0).mono fun e u ⟨e1, ho, hg⟩ => ⟨e1, hfin u hg (.inr ⟨_, by rw [HRM.out]; exact List.length_pos_iff.1 h0, by rw [HRM.out]; exact hrw4.kept (grownMap hg (by
          have h9 : g c < w1.heap.size := by
            obtain ⟨v9, _, hr9⟩ := h3.row c
            obtain ⟨_, _, _, _, hb9⟩ := hr9.hasBlock (List.length_pos_iff.2 hneL)
            exact lt_of_block hb9
          exact Nat.lt_of_lt_of_le h9 (Nat.le_trans hB3.size ho4.size)) hgm), ho⟩)⟩)
    clear h1 h2 h3 h4 h5 h6 hneL hgB hgm hB3 hold hB4 hown4 hx4 hP14 hrw4 ho4 hkb
    generalize R'.length = n' at *
    go_wp2_with fail
    refine (HSET.out).mono ?_
    rintro e w5 ⟨rfl, ⟨c1, c2, c3⟩, hbk, hop⟩
    have HF := Lib.hid (And.intro hbk hop)
    clear hbk hop
    cases q
    · simp only [Bool.not_false] at hne
      go_wp2_with fail
      all_goals (go_ret2; exact ⟨by rw [HTK.out]; rfl, HF.out⟩)
    · simp only [Bool.not_true] at hne
      go_wp2_with fail
      all_goals (go_ret2; exact ⟨by rw [HTK.out]; rfl, HF.out⟩)
end Go.Proofs.Ytmdhioifdnaajaa
