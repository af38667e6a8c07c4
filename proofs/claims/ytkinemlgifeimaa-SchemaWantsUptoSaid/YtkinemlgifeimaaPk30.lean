/-
  Some texts of one proof, one behind the other.
-/
import Derived.Test.YtkinemlgifeimaaPk29
set_option linter.unusedVariables false
set_option linter.unusedSimpArgs false

/-
  The structural class, as the document looks for it: the same.
-/
namespace Go.Proofs.Ytkinemlgifeimaa.Mt
open Go.RowKit

theorem structF_none (s : Sc) : ∀ (l : List (List UInt8)) (out : List Nat), structF s l out = none ↔ ∃ n ∈ l, clAt s n < 0
  | [], out => by simp [structF]
  | n :: r, out => by
    rw [structF_step]
    by_cases h : clAt s n < 0
    · rw [if_pos h]; exact ⟨fun _ => ⟨n, by simp, h⟩, fun _ => rfl⟩
    · rw [if_neg h]
      have h2 : (∃ m ∈ n :: r, clAt s m < 0) ↔ ∃ m ∈ r, clAt s m < 0 := by
        simp only [List.mem_cons]
        constructor
        · rintro ⟨m, rfl | hm, hc⟩
          · exact absurd hc h
          · exact ⟨m, hm, hc⟩
        · rintro ⟨m, hm, hc⟩; exact ⟨m, .inr hm, hc⟩
      rw [h2]
      split
      · exact structF_none s r _
      · exact structF_none s r _
theorem structF_some (s : Sc) : ∀ (l : List (List UInt8)) (out r : List Nat), structF s l out = some r → ∀ a, a ∈ r ↔ a ∈ out ∨ ∃ n ∈ l, 0 ≤ clAt s n ∧ (clAt s n).toNat = a ∧ (clI s (clAt s n)).kind = 1
  | [], out, r, h, a => by
    have : out = r := by simpa [structF] using h
    subst this; simp
  | n :: q, out, r, h, a => by
    rw [structF_step] at h
    by_cases h0 : clAt s n < 0
    · rw [if_pos h0] at h; cases h
    rw [if_neg h0] at h
    by_cases h1 : (clI s (clAt s n)).kind = 1 ∧ (clAt s n).toNat ∉ out
    · rw [if_pos h1] at h
      rw [structF_some s q _ r h a]
      simp only [List.mem_append, List.mem_cons, List.not_mem_nil, or_false]
      constructor
      · rintro ((h | h) | ⟨m, hm, h⟩)
        · exact .inl h
        · exact .inr ⟨n, .inl rfl, by omega, h.symm, h1.1⟩
        · exact .inr ⟨m, .inr hm, h⟩
      · rintro (h2 | ⟨m, rfl | hm, h2⟩)
        · exact .inl (.inl h2)
        · exact .inl (.inr h2.2.1.symm)
        · exact .inr ⟨m, hm, h2⟩
    · rw [if_neg h1] at h
      rw [structF_some s q _ r h a]
      simp only [List.mem_cons]
      constructor
      · rintro (h | ⟨m, hm, h⟩)
        · exact .inl h
        · exact .inr ⟨m, .inr hm, h⟩
      · rintro (h3 | ⟨m, rfl | hm, h3⟩)
        · exact .inl h3
        · refine .inl ?_
          by_cases h2 : (clAt s m).toNat ∈ out
          · rw [← h3.2.1]; exact h2
          · exact absurd ⟨h3.2.2, h2⟩ h1
        · exact .inr ⟨m, hm, h3⟩
/-- Whether one more of the classes keeps it a good one. -/
def rokS (s : Sc) (n o : List UInt8) (ok : Bool) : Bool := if 0 ≤ clAt s o ∧ (clI s (clAt s o)).kind = 1 then ok && decide ((clI s (clAt s o)).name ∈ chainN s n) else ok
def rokL (s : Sc) (n : List UInt8) (l : List (List UInt8)) (ok : Bool) : Bool := l.foldl (fun b o => rokS s n o b) ok
theorem rokL_true (s : Sc) (n : List UInt8) : ∀ (l : List (List UInt8)) (ok : Bool), rokL s n l ok = true ↔ ok = true ∧ ∀ o ∈ l, 0 ≤ clAt s o → (clI s (clAt s o)).kind = 1 → (clI s (clAt s o)).name ∈ chainN s n
  | [], ok => by simp [rokL]
  | o :: r, ok => by
    show rokL s n r (rokS s n o ok) = true ↔ _
    rw [rokL_true s n r]
    unfold rokS
    by_cases h : 0 ≤ clAt s o ∧ (clI s (clAt s o)).kind = 1
    · rw [if_pos h, Bool.and_eq_true, decide_eq_true_eq]
      constructor
      · rintro ⟨⟨h1, h2⟩, h3⟩
        refine ⟨h1, fun x hx => ?_⟩
        rcases List.mem_cons.1 hx with rfl | hx
        · exact fun _ _ => h2
        · exact h3 x hx
      · rintro ⟨h1, h2⟩
        exact ⟨⟨h1, h2 o (by simp) h.1 h.2⟩, fun x hx => h2 x (List.mem_cons_of_mem _ hx)⟩
    · rw [if_neg h]
      constructor
      · rintro ⟨h1, h3⟩
        refine ⟨h1, fun x hx => ?_⟩
        rcases List.mem_cons.1 hx with rfl | hx
        · exact fun a b => absurd ⟨a, b⟩ h
        · exact h3 x hx
      · rintro ⟨h1, h2⟩
        exact ⟨h1, fun x hx => h2 x (List.mem_cons_of_mem _ hx)⟩
def rokN (s : Sc) (cs : List (List UInt8)) (n : List UInt8) : Bool := rokL s n cs (decide ((clI s (clAt s n)).kind = 1))
def rkindF (s : Sc) (cs : List (List UInt8)) : List (List UInt8) → List UInt8 → Option (List UInt8)
  | [], best => some best
  | n :: r, best => if clAt s n < 0 then none else rkindF s cs r (if rokN s cs n = true then (clI s (clAt s n)).name else best)
def rkindS (s : Sc) (cs : List (List UInt8)) : List UInt8 × Bool := match rkindF s cs cs [] with
  | none => ([], false)
  | some b => (b, decide (b ≠ []))
theorem rkindF_none (s : Sc) (cs : List (List UInt8)) : ∀ (l : List (List UInt8)) (b : List UInt8), (∃ n ∈ l, clAt s n < 0) → rkindF s cs l b = none
  | [], b, h => by obtain ⟨n, hn, _⟩ := h; cases hn
  | n :: r, b, h => by
    unfold rkindF
    by_cases h0 : clAt s n < 0
    · rw [if_pos h0]
    · rw [if_neg h0]
      refine rkindF_none s cs r _ ?_
      obtain ⟨m, hm, hc⟩ := h
      rcases List.mem_cons.1 hm with rfl | hm
      · exact absurd hc h0
      · exact ⟨m, hm, hc⟩
theorem rkindF_no (s : Sc) (cs : List (List UInt8)) : ∀ (l : List (List UInt8)) (b : List UInt8), (∀ n ∈ l, ¬ clAt s n < 0) → (∀ n ∈ l, rokN s cs n = false) → rkindF s cs l b = some b
  | [], b, _, _ => rfl
  | n :: r, b, h, h2 => by
    unfold rkindF
    rw [if_neg (h n (by simp)), if_neg (by rw [h2 n (by simp)]; decide)]
    exact rkindF_no s cs r b (fun m hm => h m (List.mem_cons_of_mem _ hm)) (fun m hm => h2 m (List.mem_cons_of_mem _ hm))
theorem rkindF_yes (s : Sc) (cs : List (List UInt8)) (N : List UInt8) : ∀ (l : List (List UInt8)) (b : List UInt8), (∀ n ∈ l, ¬ clAt s n < 0) → (∀ n ∈ l, rokN s cs n = true → (clI s (clAt s n)).name = N) → (b = N ∨ ∃ n ∈ l, rokN s cs n = true) → rkindF s cs l b = some N
  | [], b, _, _, h => by
    rcases h with rfl | ⟨n, hn, _⟩
    · rfl
    · cases hn
  | n :: r, b, h, h2, h3 => by
    unfold rkindF
    rw [if_neg (h n (by simp))]
    refine rkindF_yes s cs N r _ (fun m hm => h m (List.mem_cons_of_mem _ hm)) (fun m hm => h2 m (List.mem_cons_of_mem _ hm)) ?_
    by_cases h4 : rokN s cs n = true
    · rw [if_pos h4]; exact .inl (h2 n (by simp) h4)
    · rw [if_neg h4]
      rcases h3 with h3 | ⟨m, hm, h5⟩
      · exact .inl h3
      · rcases List.mem_cons.1 hm with rfl | hm
        · exact absurd h5 h4
        · exact .inr ⟨m, hm, h5⟩
theorem chainF_le (s : Sc) : ∀ (n : Nat) (i : Int), ∀ j ∈ chainF s n i, (j : Int) ≤ i
  | 0, i, j, h => by simp [chainF] at h
  | n + 1, i, j, h => by
    by_cases h0 : i < 0
    · rw [chainF_neg s _ h0] at h; cases h
    · rw [chainF_pos s n (by omega)] at h
      rcases List.mem_cons.1 h with rfl | h
      · omega
      · have h1 := chainF_le s n _ j h
        have h2 := (supAt_range (s := s) i.toNat).2
        omega
theorem clI_nat (s : Sc) {k : Int} (h : 0 ≤ k) : clI s ((k.toNat : Nat) : Int) = clI s k := by rw [Int.toNat_of_nonneg h]
theorem chain_name {s : Sc} (hk : chk s = 0) {n : List UInt8} (h : 0 ≤ clAt s n) : chain s (clI s (clAt s n)).name = chain s n := by
  have hr := (clAt_range s n).2
  have h1 := chk_at hk (clAt s n).toNat (by omega)
  rw [clI_nat s h, Int.toNat_of_nonneg h] at h1
  unfold chain
  rw [h1]
theorem name_chain {s : Sc} (hk : chk s = 0) {b : Nat} (hb : b < s.classes.length) (n : List UInt8) : (clI s (b : Int)).name ∈ chainN s n ↔ b ∈ chain s n := by
  unfold chainN
  constructor
  · intro h
    obtain ⟨j, hj, he⟩ := List.mem_map.1 h
    have h1 := chk_at hk b hb
    have h2 := chk_at hk j (chain_lt s n j hj)
    rw [he, h1] at h2
    have : b = j := by omega
    rw [this]; exact hj
  · intro h; exact List.mem_map.2 ⟨b, h, rfl⟩
theorem rokN_iff {s : Sc} (hk : chk s = 0) {cs : List (List UInt8)} {l : List Nat} (h : structF s cs [] = some l) {n : List UInt8} (hn : n ∈ cs) (h0 : 0 ≤ clAt s n) :
    rokN s cs n = true ↔ (clAt s n).toNat ∈ l ∧ hasAll l (chain s (clI s (((clAt s n).toNat : Nat) : Int)).name) = true := by
  have hm := structF_some s cs [] l h
  unfold rokN
  rw [rokL_true, decide_eq_true_eq, clI_nat s h0, chain_name hk h0]
  unfold hasAll
  rw [List.all_eq_true]
  constructor
  · rintro ⟨h1, h2⟩
    refine ⟨(hm _).2 (.inr ⟨n, hn, h0, rfl, h1⟩), fun b hb => ?_⟩
    rcases (hm b).1 hb with hb | ⟨o, ho, ho0, rfl, hok⟩
    · cases hb
    · rw [decide_eq_true_eq]
      have h3 := h2 o ho ho0 hok
      rw [← clI_nat s ho0] at h3
      exact (name_chain hk (by have := (clAt_range s o).2; omega) n).1 h3
  · rintro ⟨h1, h2⟩
    rcases (hm _).1 h1 with h1 | ⟨o, ho, ho0, he, hok⟩
    · cases h1
    · refine ⟨?_, fun x hx hx0 hxk => ?_⟩
      · have : clAt s o = clAt s n := by omega
        rw [← this]; exact hok
      · have h3 := h2 _ ((hm _).2 (.inr ⟨x, hx, hx0, rfl, hxk⟩))
        rw [decide_eq_true_eq] at h3
        rw [← clI_nat s hx0]
        exact (name_chain hk (by have := (clAt_range s x).2; omega) n).2 h3
theorem rkind_eq {s : Sc} (hk : chk s = 0) (cs : List (List UInt8)) : rkindS s cs = kindS s cs := by
  unfold rkindS kindS
  cases hs : structF s cs [] with
  | none => rw [rkindF_none s cs cs [] ((structF_none s cs []).1 hs)]
  | some l =>
    have hpos : ∀ n ∈ cs, ¬ clAt s n < 0 := fun n hn hc => by
      have := (structF_none s cs []).2 ⟨n, hn, hc⟩
      rw [hs] at this; cases this
    have hm := structF_some s cs [] l hs
    cases hl : kindL s l with
    | none =>
      have hno : ∀ n ∈ cs, rokN s cs n = false := fun n hn => by
        by_cases h : rokN s cs n = true
        · exfalso
          obtain ⟨h1, h2⟩ := (rokN_iff hk hs hn (by have := hpos n hn; omega)).1 h
          unfold kindL at hl
          rw [List.find?_eq_none] at hl
          exact hl _ h1 h2
        · simpa using h
      rw [rkindF_no s cs cs [] hpos hno]
      show (([] : List UInt8), decide (([] : List UInt8) ≠ [])) = match kindL s l with
        | some a => ((clI s (a : Int)).name, true)
        | none => ([], false)
      rw [hl]; rfl
    | some a =>
      have hl2 := hl
      unfold kindL at hl
      have ha := List.mem_of_find?_eq_some hl
      have hp : hasAll l (chain s (clI s (a : Int)).name) = true := List.find?_some (p := fun (x : Nat) => hasAll l (chain s (clI s (x : Int)).name)) hl
      have hlt : ∀ b ∈ l, b < s.classes.length := fun b hb => by
        rcases (hm b).1 hb with hb | ⟨o, _, ho0, rfl, _⟩
        · cases hb
        · have := (clAt_range s o).2; omega
      have hun : ∀ b ∈ l, hasAll l (chain s (clI s (b : Int)).name) = true → b = a := fun b hb hbp => by
        have le : ∀ x y, x ∈ l → y ∈ l → hasAll l (chain s (clI s (x : Int)).name) = true → y ≤ x := fun x y hx hy hxp => by
          unfold hasAll at hxp
          rw [List.all_eq_true] at hxp
          have h1 := hxp y hy
          rw [decide_eq_true_eq] at h1
          have h2 := chainF_le s _ _ y h1
          rw [chk_at hk x (hlt x hx)] at h2
          omega
        have h1 := le b a hb ha hbp
        have h2 := le a b ha hb hp
        omega
      have hne : (clI s (a : Int)).name ≠ [] := fun he => by
        have := chkCl_typ (chk_cl hk a (hlt a ha))
        rw [he, typL_nil] at this; cases this
      have hy : rkindF s cs cs [] = some (clI s (a : Int)).name := by
        refine rkindF_yes s cs (clI s (a : Int)).name cs [] hpos (fun n hn hr => ?_) (.inr ?_)
        · have h0 : 0 ≤ clAt s n := by have := hpos n hn; omega
          obtain ⟨h1, h2⟩ := (rokN_iff hk hs hn h0).1 hr
          have := hun _ h1 h2
          rw [← clI_nat s h0, this]
        · rcases (hm a).1 ha with h | ⟨o, ho, ho0, he, hok⟩
          · cases h
          · refine ⟨o, ho, (rokN_iff hk hs ho ho0).2 ?_⟩
            rw [he]; exact ⟨ha, hp⟩
      rw [hy]
      show ((clI s (a : Int)).name, decide ((clI s (a : Int)).name ≠ [])) = match kindL s l with
          | some a => ((clI s (a : Int)).name, true)
          | none => ([], false)
      rw [hl2, decide_eq_true hne]
end Go.Proofs.Ytkinemlgifeimaa.Mt

/-
  The structural class, as the document looks for it.
-/
namespace Go.Proofs.Ytkinemlgifeimaa
open Go.RowKit

theorem Mt.rkindF_step (s : Mt.Sc) (cs : List (List UInt8)) {i : Nat} (h : i < cs.length) (b : List UInt8) : Mt.rkindF s cs (cs.drop i) b = if Mt.clAt s cs[i] < 0 then none else Mt.rkindF s cs (cs.drop (i + 1)) (if Mt.rokN s cs cs[i] = true then (Mt.clI s (Mt.clAt s cs[i])).name else b) := by
  rw [List.drop_eq_getElem_cons h]; rfl
theorem Mt.rokL_step (s : Mt.Sc) (cs : List (List UInt8)) (n : List UInt8) {i : Nat} (h : i < cs.length) (ok : Bool) : Mt.rokL s n (cs.drop i) ok = Mt.rokL s n (cs.drop (i + 1)) (Mt.rokS s n cs[i] ok) := by
  rw [List.drop_eq_getElem_cons h]; rfl
set_option maxRecDepth 100000 in
set_option maxHeartbeats 4000000 in
theorem rkind13_any {tv cv v : Value} {s : Mt.Sc} {cs : List (List UInt8)} {w : World} (h : IsSc w tv cv s) (hv : IsNms w v cs) (hf : FitN cs) (hk0 : Mt.chk s = 0) :
    Calls Try.prog 24 #[.agg #[tv, cv], v] w fun e w' => e = .returned (kindV (Mt.kindS s cs)) ∧ Below w.heap.size w w' := by
  have HCH := Lib.hid (fun (n : List UInt8) (hn : n.length ≤ 140737488351232) (u : World) (hb : Below w.heap.size w u) => rchain13_any n hn (h.below hb) hk0)
  have HCA := Lib.hid (fun (n : List UInt8) (hn : n.length ≤ 140737488351232) (u : World) (hb : Below w.heap.size w u) => rClAt_any (h.below hb) n hn)
  have HRG := Lib.hid (fun n => Mt.clAt_range s n)
  have HCL := Lib.hid (fun n => Mt.chain_len s n)
  have hcl := (Mt.chk_len hk0).2
  have HFN := Lib.hid hf.2
  have hcn := hf.1
  have HCM := Lib.hid h.cnm
  rw [← Mt.rkind_eq hk0]
  obtain ⟨ta, tcap, hv1, -, -⟩ := h.types
  obtain ⟨ca, ccap, hv2, hcc, HCS⟩ := h.classes
  obtain ⟨va, vcap, rfl, hvc, HV⟩ := hv
  obtain ⟨tn, htn⟩ : ∃ n, s.types.length = n := ⟨_, rfl⟩
  obtain ⟨m, hm⟩ : ∃ n, s.classes.length = n := ⟨_, rfl⟩
  obtain ⟨nc, hnc⟩ : ∃ n, cs.length = n := ⟨_, rfl⟩
  have HMM := Lib.hid (And.intro hm hnc)
  rw [htn] at hv1
  rw [hm] at hv2 hcc hcl HRG HCL
  rw [hnc] at hvc hcn ⊢
  subst hv1 hv2
  obtain ⟨RF, hRF⟩ : ∃ R, Mt.rkindF s cs cs [] = R := ⟨_, rfl⟩
  have HR0 := Lib.hid (show Mt.rkindF s cs (cs.drop 0) [] = RF from hRF)
  have HRS : Hid ((RF = none → Mt.rkindS s cs = ([], false)) ∧ ∀ b, RF = some b → Mt.rkindS s cs = (b, decide (b ≠ []))) := Lib.hid (by
    refine ⟨fun he => ?_, fun b he => ?_⟩
    · unfold Mt.rkindS; rw [hRF, he]
    · unfold Mt.rkindS; rw [hRF, he])
  obtain ⟨RS, hRS⟩ : ∃ R, Mt.rkindS s cs = R := ⟨_, rfl⟩
  rw [hRS] at HRS ⊢
  obtain ⟨w1, hw1⟩ : ∃ w1, w.alloc (.cells #[.slice ta tn tcap, .slice ca m ccap] 25) = w1 := ⟨_, rfl⟩
  have hA1 : Below w.heap.size w w1 := by rw [← hw1]; exact (Below.refl _ w).alloc (Nat.le_refl _) _
  have hs1 : w1.heap.size = w.heap.size + 1 := by rw [← hw1]; simp
  have hx1 : w1.heap[w.heap.size]? = some (.cells #[.slice ta tn tcap, .slice ca m ccap] 25) := by rw [← hw1]; exact heap_alloc_new w _
  have HP : Hid (∀ u, Below w1.heap.size w1 u → (u.cell? ⟨w.heap.size, 0, none⟩ = some (.slice ta tn tcap) ∧ u.cell? ⟨w.heap.size, 1, none⟩ = some (.slice ca m ccap)) ∧ Below w.heap.size w u) := Lib.hid (fun u hu => by
    have r1 := (hu.block w.heap.size (by omega)).trans hx1
    exact ⟨⟨by rw [cell_of_row _ _ _ _ _ _ r1]; rfl, by rw [cell_of_row _ _ _ _ _ _ r1]; rfl⟩, hA1.trans (hu.mono hA1.size)⟩)
  have HCELL : Hid (∀ (y : Nat), y < m → ∃ b off, ca = some ⟨b, off, none⟩ ∧ ∀ u, Below w1.heap.size w1 u → u.cell? ⟨b, off + y * 5, none⟩ = some (.string (Mt.str (Mt.clI s (y : Int)).name)) ∧ u.cell? ⟨b, off + y * 5 + 2, none⟩ = some (.int .i64 (Mt.clI s (y : Int)).kind)) := Lib.hid (fun y hy => by
    have hyl : y < s.classes.length := by rw [HMM.out.1]; exact hy
    obtain ⟨b, off, mv, yv, e0, hbl, h0, -, h2, -, -, -, -⟩ := HCS.out y hyl
    rw [Mt.clI_get hyl]
    refine ⟨b, off, e0, fun u hu => ?_⟩
    have hb := (HP.out u hu).2
    exact ⟨(hb.cell (p := ⟨b, _, none⟩) hbl).trans h0, (hb.cell (p := ⟨b, _, none⟩) hbl).trans h2⟩)
  have HNL : Hid (∀ (y : Nat), y < m → (Mt.clI s (y : Int)).name.length ≤ 140737488351232) := Lib.hid (fun y hy => by
    have hyl : y < s.classes.length := by rw [HMM.out.1]; exact hy
    rw [Mt.clI_get hyl]; exact (HCM.out _ (List.getElem_mem hyl)).1)
  clear h hf hk0 hx1 hA1 htn hm hnc hRF hRS HCM HCS
  go_enter Try.func24, Try.ntmps24
  go_wp2_with fail
  go_loopw [6, 16] (fun bv iv wr => ∃ (i : Nat) (b : List UInt8), i ≤ nc ∧ iv = .int .i64 (i : Int) ∧ bv = .string (Mt.str b) ∧ Hid (Mt.rkindF s cs (cs.drop i) b = RF) ∧ Hid (Below w1.heap.size w1 wr)) (fun _ iv _ => nc - (intOf iv).toNat)
  case atStart => exact ⟨0, [], Nat.zero_le _, rfl, rfl, HR0, Lib.hid (Below.refl _ _)⟩
  case round =>
    obtain ⟨i, b0, hi, rfl, rfl, HF, HW⟩ := hrel
    obtain ⟨⟨p0, p1⟩, hB⟩ := HP.out wr HW.out
    have HB := Lib.hid hB
    clear hB
    by_cases hlt : i < nc
    · have e1 : decide ((i : Int) < (nc : Int)) = true := decide_eq_true (by omega)
      have e2 : decide (i < nc) = true := decide_eq_true hlt
      have hil : i < cs.length := by rw [HMM.out.2]; exact hlt
      obtain ⟨b, off, e0, hbl, hc0⟩ := HV.out i hil
      subst e0
      have x0 := (HB.out.cell (p := ⟨b, off + i, none⟩) hbl).trans hc0
      have i0 : (0 : Int) ≤ (i : Int) := by omega
      have i1 : (i : Int) < (nc : Int) := by omega
      have hst := Mt.rkindF_step s cs hil b0
      rw [HF.out] at hst
      have hnl := HFN.out _ (List.getElem_mem hil)
      generalize cs[i] = nm at *
      have hrg := HRG.out nm
      have HC := Lib.hid (HCA.out nm hnl)
      have HC2 := Lib.hid (HCH.out nm hnl)
      have HLC := Lib.hid (HCL.out nm)
      obtain ⟨k, hk⟩ : ∃ k, Mt.clAt s nm = k := ⟨_, rfl⟩
      rw [hk] at HC hst hrg
      have HKN := Lib.hid hk
      obtain ⟨B0, hB0⟩ : ∃ x, Mt.str b0 = x := ⟨_, rfl⟩
      have HB0 := Lib.hid hB0
      obtain ⟨NM, hNM⟩ : ∃ x, Mt.str nm = x := ⟨_, rfl⟩
      rw [hNM] at x0 HC HC2
      rw [hB0]
      have HST := Lib.hid hst
      clear hbl hc0 hnl hk hNM hil hst hB0 HF
      go_wp2_with fail
      refine (HC.out _ HB.out).mono ?_
      rintro e w2 ⟨rfl, hb⟩
      have HW2 := Lib.hid (HW.out.trans (hb.mono HW.out.size))
      have HB2 := Lib.hid (HB.out.trans (hb.mono HB.out.size))
      clear hb p0 p1 x0 HC
      obtain ⟨⟨p0, p1⟩, -⟩ := HP.out w2 HW2.out
      by_cases hneg : k < 0
      · have d1 : decide (k < 0) = true := decide_eq_true hneg
        have HE : Hid (kindV RS = .tuple #[.string ⟨#[]⟩, .bool false]) := Lib.hid (by
          have h9 := HST.out
          rw [if_pos hneg] at h9
          rw [HRS.out.1 h9]; rfl)
        clear hneg
        go_wp2_with fail
        all_goals ((try rw [Exit.noGoto_ret]); go_ret2; exact ⟨by rw [HE.out]; rfl, HB2.out⟩)
      · have d1 : decide (k < 0) = false := decide_eq_false hneg
        obtain ⟨x, rfl⟩ := Int.eq_ofNat_of_zero_le (show 0 ≤ k by omega)
        have hxm : x < m := by omega
        have x0 : (0 : Int) ≤ (x : Int) := by omega
        have x1 : (x : Int) < (m : Int) := by omega
        obtain ⟨b, off, e0, HC5⟩ := HCELL.out x hxm
        subst e0
        obtain ⟨-, y2⟩ := HC5 w2 HW2.out
        have HC5 := Lib.hid HC5
        obtain ⟨OKR, hOK⟩ : ∃ r, Mt.rokN s cs nm = r := ⟨_, rfl⟩
        have hok0 := hOK
        unfold Mt.rokN at hok0
        rw [HKN.out] at hok0
        have HST2 : Hid (RF = Mt.rkindF s cs (cs.drop (i + 1)) (if OKR = true then (Mt.clI s (x : Int)).name else b0)) := Lib.hid (by
          have h9 := HST.out
          rw [if_neg hneg, hOK] at h9
          exact h9)
        obtain ⟨kd, hkd⟩ : ∃ kd, (Mt.clI s (x : Int)).kind = kd := ⟨_, rfl⟩
        rw [hkd] at y2 hok0
        have HOK0 := Lib.hid (show Mt.rokL s nm (cs.drop 0) (decide (kd = 1)) = OKR from hok0)
        obtain ⟨z, hz⟩ : ∃ z, decide (kd = 1) = z := ⟨_, rfl⟩
        rw [hz] at HOK0
        have hz2 : (kd == 1) = z := by rw [← hz]; exact Bool.eq_iff_iff.2 (by simp)
        clear hneg HST hok0 hOK hkd
        go_upto_region 9 with fail
        clear hz hz2 y2
        go_wp2_with fail
        go_loopw [10, 35] (fun okv jv wy => ∃ (j : Nat) (ok : Bool), j ≤ nc ∧ jv = .int .i64 (j : Int) ∧ okv = .bool ok ∧ Hid (Mt.rokL s nm (cs.drop j) ok = OKR) ∧ Hid (Below w2.heap.size w2 wy)) (fun _ jv _ => nc - (intOf jv).toNat)
        case atStart => exact ⟨0, z, Nat.zero_le _, rfl, rfl, HOK0, Lib.hid (Below.refl _ _)⟩
        case round =>
          obtain ⟨j, ok, hj, rfl, rfl, HO, HY⟩ := hrel
          have HWr := Lib.hid (HW2.out.trans (HY.out.mono HW2.out.size))
          obtain ⟨⟨p0, p1⟩, hB⟩ := HP.out wr HWr.out
          have HBr := Lib.hid hB
          clear hB
          by_cases hlt2 : j < nc
          · have f1 : decide ((j : Int) < (nc : Int)) = true := decide_eq_true (by omega)
            have f2 : decide (j < nc) = true := decide_eq_true hlt2
            have hjl : j < cs.length := by rw [HMM.out.2]; exact hlt2
            obtain ⟨b3, off3, e3, hbl3, hc3⟩ := HV.out j hjl
            have e3' : some (Addr.mk b3 off3 none) = some _ := e3.symm
            cases e3'
            have q0 := (HBr.out.cell (p := ⟨_, _ + j, none⟩) hbl3).trans hc3
            have j0 : (0 : Int) ≤ (j : Int) := by omega
            have j1 : (j : Int) < (nc : Int) := by omega
            have hst := Mt.rokL_step s cs nm hjl ok
            rw [HO.out] at hst
            have hnl := HFN.out _ (List.getElem_mem hjl)
            generalize cs[j] = om at *
            have hrg2 := HRG.out om
            have HCo := Lib.hid (HCA.out om hnl)
            obtain ⟨k2, hk2⟩ : ∃ k, Mt.clAt s om = k := ⟨_, rfl⟩
            rw [hk2] at HCo hrg2
            have hro : Mt.rokS s nm om ok = if 0 ≤ k2 ∧ (Mt.clI s k2).kind = 1 then ok && decide ((Mt.clI s k2).name ∈ Mt.chainN s nm) else ok := by unfold Mt.rokS; rw [hk2]
            rw [hro] at hst
            have HST := Lib.hid hst
            obtain ⟨OM, hOM⟩ : ∃ x, Mt.str om = x := ⟨_, rfl⟩
            rw [hOM] at q0 HCo
            clear hbl3 hc3 hnl hk2 hOM hjl hst hro e3 HO
            go_wp2_with fail
            refine (HCo.out _ HBr.out).mono ?_
            rintro e w4 ⟨rfl, hb⟩
            have HW4 := Lib.hid (HWr.out.trans (hb.mono HWr.out.size))
            have HY4 := Lib.hid (HY.out.trans (hb.mono HY.out.size))
            have HB4 := Lib.hid (HBr.out.trans (hb.mono HBr.out.size))
            clear hb p0 p1 q0 HCo
            obtain ⟨⟨p0, p1⟩, -⟩ := HP.out w4 HW4.out
            by_cases hneg : k2 < 0
            · have d2 : decide (0 ≤ k2) = false := decide_eq_false (by omega)
              have d3 : decide (k2 ≥ 0) = false := decide_eq_false (by omega)
              have HS5 : Hid (Mt.rokL s nm (cs.drop (j + 1)) ok = OKR) := Lib.hid (by
                have h9 := HST.out
                rw [if_neg (by omega)] at h9
                exact h9.symm)
              clear hneg
              go_wp2_with fail
              go_roundw
              case rel => exact ⟨j + 1, ok, by omega, by go_num, rfl, HS5, HY4⟩
              case measure => simp [intOf]; omega
            · have d2 : decide (0 ≤ k2) = true := decide_eq_true (by omega)
              have d3 : decide (k2 ≥ 0) = true := decide_eq_true (by omega)
              obtain ⟨y, rfl⟩ := Int.eq_ofNat_of_zero_le (show 0 ≤ k2 by omega)
              have hym : y < m := by omega
              have y0 : (0 : Int) ≤ (y : Int) := by omega
              have y1 : (y : Int) < (m : Int) := by omega
              obtain ⟨b6, off6, e6, HC6⟩ := HCELL.out y hym
              cases e6
              obtain ⟨y3, y2⟩ := HC6 w4 HW4.out
              have HC6 := Lib.hid HC6
              obtain ⟨kd2, hkd2⟩ : ∃ kd, (Mt.clI s (y : Int)).kind = kd := ⟨_, rfl⟩
              rw [hkd2] at y2 HC6 HST
              by_cases hk1 : kd2 = 1
              · subst hk1
                cases ok with
                | false =>
                  have HS5 : Hid (Mt.rokL s nm (cs.drop (j + 1)) false = OKR) := Lib.hid (by
                    have h9 := HST.out
                    rw [if_pos ⟨y0, rfl⟩] at h9
                    exact h9.symm)
                  clear hneg hkd2
                  go_upto_region 14 with fail
                  have HD4 : Hid (∀ n, Below w2.heap.size w2 (w4.drewN n)) := Lib.hid (fun n => Below.drewK HY4.out n)
                  go_quiet (fail)
                  have HD5 := Lib.hid (HD4.out nq)
                  go_wp2_with fail
                  go_roundw
                  case rel => exact ⟨j + 1, false, by omega, by go_num, rfl, HS5, HD5⟩
                  case measure => simp [intOf]; omega
                | true =>
                  have HHM := Lib.hid (fun (u : World) (a : Value) (ha : IsNms u a (Mt.chainN s nm)) => has13_any ha (Mt.clI s (y : Int)).name (by
                    have := HLC.out
                    unfold Mt.chainN; rw [List.length_map]; omega))
                  obtain ⟨q, hq⟩ : ∃ q, decide ((Mt.clI s (y : Int)).name ∈ Mt.chainN s nm) = q := ⟨_, rfl⟩
                  rw [hq] at HHM HST
                  have HS5 : Hid (Mt.rokL s nm (cs.drop (j + 1)) q = OKR) := Lib.hid (by
                    have h9 := HST.out
                    rw [if_pos ⟨y0, rfl⟩] at h9
                    exact h9.symm)
                  obtain ⟨CN, hCN⟩ : ∃ l, Mt.chainN s nm = l := ⟨_, rfl⟩
                  rw [hCN] at HHM HC2
                  obtain ⟨YN, hYN⟩ : ∃ x, Mt.str (Mt.clI s (y : Int)).name = x := ⟨_, rfl⟩
                  rw [hYN] at HHM HC6 y3
                  clear hneg hkd2 hq hCN hYN
                  go_upto_region 14 with fail
                  clear y2
                  have HSS : Hid (∀ u, Below w4.heap.size w4 u → u.cell? ⟨w.heap.size, 0, none⟩ = some (.slice ta tn tcap) ∧ u.cell? ⟨w.heap.size, 1, none⟩ = some (.slice (some ⟨b, off, none⟩) m ccap) ∧ u.cell? ⟨b, off + y * 5, none⟩ = some (.string YN)) := Lib.hid (fun u hu => by
                    have hw := HW4.out.trans (hu.mono HW4.out.size)
                    exact ⟨(HP.out u hw).1.1, (HP.out u hw).1.2, (HC6.out u hw).1⟩)
                  have HYd : Hid (Below w4.heap.size w4 w4.drew) := Lib.hid (Below.refl _ w4).drew
                  have HBd : Hid (Below w.heap.size w w4.drew) := Lib.hid HB4.out.drew
                  clear p0 p1 y3
                  go_region_held3 (fun w' => w'.cell? ⟨w.heap.size, 0, none⟩ = some (.slice ta tn tcap) ∧ w'.cell? ⟨w.heap.size, 1, none⟩ = some (.slice (some ⟨b, off, none⟩) m ccap) ∧ w'.cell? ⟨b, off + y * 5, none⟩ = some (.string YN))
                    (first
                      | with_reducible exact HSS.out _ HYd.out
                      | with_reducible exact HSS.out _ HY6.out
                      | with_reducible exact HSS.out _ HY7.out
                      | go_keep)
                    (first
                      | (go_at_call 20; (with_reducible refine (HC2.out _ HBd.out).mono ?_); rintro e w6 ⟨cv2, rfl, hown, hb⟩; have HN6 := Lib.hid (IsOwn.nms hown); have HY6 := Lib.hid (HYd.out.trans (hb.mono HYd.out.size)); clear hb hown)
                      | (go_at_call 28; (with_reducible refine (HHM.out _ _ HN6.out).mono ?_); rintro e w7 ⟨rfl, hb⟩; have HY7 := Lib.hid (HY6.out.trans (hb.mono HY6.out.size)); clear hb))
                  all_goals
                    have HY8 := Lib.hid (HY4.out.trans (HY7.out.mono HY4.out.size))
                    go_wp2_with fail
                    go_roundw
                    case rel => exact ⟨j + 1, q, by omega, by go_num, rfl, HS5, HY8⟩
                    case measure => simp [intOf]; omega
              · have hk2 : decide (kd2 = 1) = false := decide_eq_false hk1
                have hk3 : (kd2 == 1) = false := by simpa using hk1
                have HS5 : Hid (Mt.rokL s nm (cs.drop (j + 1)) ok = OKR) := Lib.hid (by
                  have h9 := HST.out
                  rw [if_neg (fun h => hk1 h.2)] at h9
                  exact h9.symm)
                clear hneg hkd2
                go_wp2_with fail
                go_roundw
                case rel => exact ⟨j + 1, ok, by omega, by go_num, rfl, HS5, HY4⟩
                case measure => simp [intOf]; omega
          · obtain rfl : j = nc := by omega
            have f1 : decide ((j : Int) < (j : Int)) = false := decide_eq_false (by omega)
            have f2 : decide (j < j) = false := decide_eq_false (by omega)
            have hall : cs.drop j = [] := List.drop_of_length_le (by rw [HMM.out.2]; exact Nat.le_refl _)
            have hoe : ok = OKR := by
              have h9 := HO.out
              rw [hall] at h9
              exact h9
            subst hoe
            obtain ⟨y3, -⟩ := HC5.out wr HWr.out
            cases ok with
            | true =>
              have HF2 : Hid (Mt.rkindF s cs (cs.drop (i + 1)) (Mt.clI s (x : Int)).name = RF) := Lib.hid (by
                have h9 := HST2.out
                rw [if_pos rfl] at h9
                exact h9.symm)
              clear hall HO
              go_wp2_with fail
              go_roundw
              case rel => exact ⟨i + 1, (Mt.clI s (x : Int)).name, by omega, by go_num, rfl, HF2, HWr⟩
              case measure => simp [intOf]; omega
            | false =>
              have HF2 : Hid (Mt.rkindF s cs (cs.drop (i + 1)) b0 = RF) := Lib.hid (by
                have h9 := HST2.out
                rw [if_neg (by decide)] at h9
                exact h9.symm)
              clear hall HO y3
              go_wp2_with fail
              go_roundw
              case rel => exact ⟨i + 1, b0, by omega, by go_num, by rw [HB0.out], HF2, HWr⟩
              case measure => simp [intOf]; omega
    · obtain rfl : i = nc := by omega
      have e1 : decide ((i : Int) < (i : Int)) = false := decide_eq_false (by omega)
      have e2 : decide (i < i) = false := decide_eq_false (by omega)
      have hall : cs.drop i = [] := List.drop_of_length_le (by rw [HMM.out.2]; exact Nat.le_refl _)
      have HE : Hid (kindV RS = .tuple #[.string (Mt.str b0), .bool (decide (b0 ≠ []))]) := Lib.hid (by
        have h9 := HF.out
        rw [hall] at h9
        rw [HRS.out.2 b0 h9.symm]; rfl)
      by_cases hb0 : b0 = []
      · subst hb0
        have HE2 : Hid (kindV RS = .tuple #[.string ⟨#[]⟩, .bool false]) := Lib.hid (by rw [HE.out]; rfl)
        have hs0 : Mt.str [] = ⟨#[]⟩ := rfl
        rw [hs0]
        clear hall
        go_wp2_with fail
        all_goals ((try rw [Exit.noGoto_ret]); go_ret2; exact ⟨by rw [HE2.out]; rfl, HB.out⟩)
      · have hU : (Mt.str b0).toList.isEmpty = false := by
          rw [ByteArray.toList_eq, Mt.str_data, Bool.eq_false_iff, Ne, List.isEmpty_iff]; exact hb0
        have HE2 : Hid (kindV RS = .tuple #[.string (Mt.str b0), .bool true]) := Lib.hid (by rw [HE.out, decide_eq_true hb0])
        obtain ⟨B0, hB0⟩ : ∃ x, Mt.str b0 = x := ⟨_, rfl⟩
        rw [hB0] at hU HE2 ⊢
        clear hall hb0 hB0 HE
        go_wp2_with fail
        all_goals ((try rw [Exit.noGoto_ret]); go_ret2; exact ⟨by rw [HE2.out]; rfl, HB.out⟩)
end Go.Proofs.Ytkinemlgifeimaa
