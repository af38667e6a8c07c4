/-
  Some texts of one proof, one behind the other.
-/
import Derived.Deep.LoopGhost
import Derived.WalkMore
import Derived.Test.YtkinemlgifeimaaPk10
set_option linter.unusedVariables false
set_option linter.unusedSimpArgs false

/-
  The structural ones among classes; which one's chain has them all.
-/
namespace Go.Proofs.Ytkinemlgifeimaa
open Go.RowKit

namespace Mt
def structF (s : Sc) : List (List UInt8) → List Nat → Option (List Nat)
  | [], out => some out
  | n :: r, out => if clAt s n < 0 then none else if (clI s (clAt s n)).kind = 1 ∧ (clAt s n).toNat ∉ out then structF s r (out ++ [(clAt s n).toNat]) else structF s r out
def hasAll (l : List Nat) (c : List Nat) : Bool := l.all fun o => decide (o ∈ c)
def kindL (s : Sc) (l : List Nat) : Option Nat := l.find? fun (a : Nat) => hasAll l (chain s (clI s (a : Int)).name)
def kindS (s : Sc) (cs : List (List UInt8)) : List UInt8 × Bool := match structF s cs [] with
  | none => ([], false)
  | some l => match kindL s l with
    | some a => ((clI s (a : Int)).name, true)
    | none => ([], false)
end Mt
set_option maxRecDepth 100000 in
theorem containsInt_any {w : World} {v : Value} {r : List Nat} (hv : IsNats w v r) (k : Nat) (hn : r.length ≤ 8796093022208) :
    Calls Try.prog 43 #[v, .int .i64 (k : Int)] w fun e w' => e = .returned (.bool (decide (k ∈ r))) ∧ Below w.heap.size w w' := by
  obtain ⟨a, cap, rfl, hcap, hcell⟩ := hv
  have hd := Mt.atL_spec (fun x : Nat => decide (x = k)) r
  have hany := Mt.atL_any (fun x : Nat => decide (x = k)) r
  have hmem : r.any (fun x => decide (x = k)) = decide (k ∈ r) := by
    rw [Bool.eq_iff_iff, List.any_eq_true, decide_eq_true_eq]
    constructor
    · rintro ⟨x, hx, h⟩; rw [decide_eq_true_eq] at h; rw [← h]; exact hx
    · intro h; exact ⟨k, h, decide_eq_true rfl⟩
  obtain ⟨q, hq⟩ : ∃ q, Mt.atL (fun x : Nat => decide (x = k)) r = q := ⟨_, rfl⟩
  rw [hq] at hd hany
  rw [← hmem, ← hany]
  obtain ⟨z, hz⟩ : ∃ z, decide (0 ≤ q) = z := ⟨_, rfl⟩
  rw [hz]
  have HD := Lib.hid hd
  have HZ := Lib.hid hz
  clear hd hany hmem hq hz
  obtain ⟨m0, hm0⟩ : ∃ m, r.length = m := ⟨_, rfl⟩
  have HL := Lib.hid hm0
  rw [hm0] at hn ⊢
  clear hm0 hcap
  have HIDX : Hid (Calls Try.prog 61 #[.slice a m0 cap, .int .i64 (k : Int)] w fun e w' => e = .returned (.int .i64 q) ∧ Below w.heap.size w w') := by
    refine Lib.hid ?_
    go_enter Try.func61, Try.ntmps61
    go_wp2_with fail
    go_loopw [8] (fun i wr => ∃ m : Nat, m ≤ m0 ∧ i = .int .i64 m ∧ Hid (∀ j (hj : j < r.length), j < m → decide (r[j] = k) = false) ∧ Hid (Below w.heap.size w wr))
      (fun i _ => m0 - (intOf i).toNat)
    case atStart => exact ⟨0, Nat.zero_le _, rfl, Lib.hid fun j _ h => absurd h (Nat.not_lt_zero _), Lib.hid (Below.refl _ _)⟩
    case round =>
      obtain ⟨m, hm, rfl, HO, HB⟩ := hrel
      by_cases hlt : m < m0
      · have hmr : m < r.length := by rw [HL.out]; exact hlt
        obtain ⟨b, off, e0, hbl, h0⟩ := hcell.out m hmr
        subst e0
        have x0 := (HB.out.cell (p := ⟨b, off + m, none⟩) hbl).trans h0
        obtain ⟨t, ht⟩ : ∃ t, r[m] = t := ⟨_, rfl⟩
        rw [ht] at x0
        have d1 : decide ((m : Int) < (m0 : Int)) = true := decide_eq_true (by omega)
        have d2 : decide (m < m0) = true := decide_eq_true hlt
        have i0 : (0 : Int) ≤ (m : Int) := by omega
        by_cases htk : t = k
        · have HQ : Hid (q = m) := Lib.hid (by
            rcases HD.out with ⟨_, h2⟩ | ⟨m2, h2, hm2, h3, h4⟩
            · have := h2 m hmr; rw [ht, decide_eq_true htk] at this; cases this
            · rw [h2]
              by_cases e : m2 = m
              · rw [e]
              · rcases Nat.lt_or_ge m2 m with h5 | h5
                · have := HO.out m2 hm2 h5; rw [h3] at this; cases this
                · have := h4 m (by omega); rw [ht, decide_eq_true htk] at this; cases this)
          have e1 : ((k : Int) == (t : Int)) = true := beq_iff_eq.2 (by omega)
          subst htk
          clear hbl h0 ht hmr
          go_wp2_with fail
          all_goals (go_ret; exact ⟨Mt.ret_int HQ.out.symm, HB.out⟩)
        · have e1 : ((k : Int) == (t : Int)) = false := beq_eq_false_iff_ne.2 (by omega)
          have e2 : (k == t) = false := beq_eq_false_iff_ne.2 (fun h => htk h.symm)
          have HO2 : Hid (∀ j (hj : j < r.length), j < m + 1 → decide (r[j] = k) = false) := Lib.hid (by
            intro j hj hlt2
            by_cases e : j = m
            · subst e; rw [ht, decide_eq_false htk]
            · exact HO.out j hj (by omega))
          clear hbl h0 ht hmr htk
          go_wp2_with fail
          go_roundw
          case rel => exact ⟨m + 1, by omega, by go_num, HO2, HB⟩
          case measure => simp [intOf]; omega
      · have HQ : Hid (q = -1) := Lib.hid (by
          rcases HD.out with ⟨h1, _⟩ | ⟨m2, h2, hm2, h3, h4⟩
          · exact h1
          · have := HO.out m2 hm2 (by have := HL.out; omega); rw [h3] at this; cases this)
        have d1 : decide ((m : Int) < (m0 : Int)) = false := decide_eq_false (by omega)
        have d2 : decide (m < m0) = false := decide_eq_false hlt
        go_wp2_with fail
        go_ret
        exact ⟨Mt.ret_int HQ.out.symm, HB.out⟩
  have d1 : decide (0 ≤ q) = z := HZ.out
  go_enter Try.func43, Try.ntmps43
  go_wp2_with fail
  refine (HIDX.out).mono ?_
  rintro e w' ⟨rfl, hb⟩
  have HB := Lib.hid hb
  clear hb
  go_wp2_with fail
  go_ret
  exact ⟨rfl, HB.out⟩
/-- The classes' names. -/
def FitN (cs : List (List UInt8)) : Prop := cs.length ≤ 8796093022208 ∧ ∀ n ∈ cs, n.length ≤ 140737488351232
theorem Mt.structF_step (s : Mt.Sc) (n : List UInt8) (r : List (List UInt8)) (out : List Nat) : Mt.structF s (n :: r) out = if Mt.clAt s n < 0 then none else if (Mt.clI s (Mt.clAt s n)).kind = 1 ∧ (Mt.clAt s n).toNat ∉ out then Mt.structF s r (out ++ [(Mt.clAt s n).toNat]) else Mt.structF s r out := rfl
def StructP (w : World) (cn m : Nat) (R : Option (List Nat)) (e : Ending) (w' : World) : Prop := match R with
  | none => e = Ending.returned (.tuple #[.slice none 0 0, .bool false])
  | some l => ∃ o, e = Ending.returned (.tuple #[o, .bool true]) ∧ IsOwn 3 1 w.heap.size w' o l.length (nats l) ∧ (∀ j ∈ l, j < cn) ∧ l.length ≤ m
theorem StructP.none {w w' : World} {cn m : Nat} {R : Option (List Nat)} (h : R = none) {e : Ending} (he : e = Ending.returned (.tuple #[.slice none 0 0, .bool false])) : StructP w cn m R e w' := by subst h; exact he
theorem StructP.some {w w' : World} {cn m : Nat} {R : Option (List Nat)} {l : List Nat} (h : R = some l) {e : Ending} {o : Value} (he : e = Ending.returned (.tuple #[o, .bool true])) (ho : IsOwn 3 1 w.heap.size w' o l.length (nats l)) (h1 : ∀ j ∈ l, j < cn) (h2 : l.length ≤ m) : StructP w cn m R e w' := by subst h; exact ⟨o, he, ho, h1, h2⟩
set_option maxRecDepth 100000 in
set_option maxHeartbeats 1000000 in
theorem structural_any {tv cv v : Value} {s : Mt.Sc} {cs : List (List UInt8)} {w : World} (h : IsSc w tv cv s) (hv : IsNms w v cs) (hf : FitN cs) :
    Calls Try.prog 42 #[.agg #[tv, cv], v] w fun e w' => StructP w s.classes.length cs.length (Mt.structF s cs []) e w' ∧ Below w.heap.size w w' := by
  have HK := Lib.hid (fun (n : List UInt8) (hn : n.length ≤ 140737488351232) (u : World) (hb : Below w.heap.size w u) => classAt_any n hn (h.below hb))
  have HCN := Lib.hid (fun (u : World) (o : Value) (r : List Nat) (k : Nat) (ho : IsNats u o r) (hr : r.length ≤ 8796093022208) => containsInt_any ho k hr)
  have HRG := Lib.hid (fun (n : List UInt8) => Mt.clAt_range s n)
  have HFN := Lib.hid hf.2
  have hclen := hf.1
  obtain ⟨i0, hi, hz0, hz1, hz2⟩ := info_parts Try.infoInt13
  have HI := Lib.hid (And.intro hi (And.intro hz0 (And.intro hz1 hz2)))
  obtain ⟨ca, ccap, hv2, -, -⟩ := h.classes
  have HNA := Lib.hid (fun (j : Nat) (hj : j < s.classes.length) => name_at h hv2 j hj)
  obtain ⟨na, ncap, rfl, hnc, HCS⟩ := hv
  obtain ⟨R, hR⟩ : ∃ R, Mt.structF s cs [] = R := ⟨_, rfl⟩
  have HR0 := Lib.hid (show Mt.structF s (cs.drop 0) [] = R from hR)
  rw [hR]
  subst hv2
  obtain ⟨cn, hcn⟩ : ∃ cn, s.classes.length = cn := ⟨_, rfl⟩
  rw [hcn] at HNA HRG HK ⊢
  obtain ⟨m, hm⟩ : ∃ m, cs.length = m := ⟨_, rfl⟩
  have HM := Lib.hid hm
  rw [hm] at hclen hnc ⊢
  obtain ⟨w1, hw1⟩ : ∃ w1, w.alloc (.cells #[tv, .slice ca cn ccap] 59) = w1 := ⟨_, rfl⟩
  have HA1 : Hid (Below w.heap.size w w1) := Lib.hid (by rw [← hw1]; exact (Below.refl _ w).alloc (Nat.le_refl _) _)
  have hs1 : w1.heap.size = w.heap.size + 1 := by rw [← hw1]; simp
  have hx1 : w1.heap[w.heap.size]? = some (.cells #[tv, .slice ca cn ccap] 59) := by rw [← hw1]; exact heap_alloc_new w _
  have HP : Hid (∀ u, Below (w.heap.size + 1) w1 u → u.cell? ⟨w.heap.size, 0, none⟩ = some tv ∧ u.cell? ⟨w.heap.size, 1, none⟩ = some (.slice ca cn ccap)) := Lib.hid (fun u hu => by
    have r1 := (hu.block w.heap.size (by omega)).trans hx1
    exact ⟨by rw [cell_of_row _ _ _ _ _ _ r1]; rfl, by rw [cell_of_row _ _ _ _ _ _ r1]; rfl⟩)
  clear h hf hi hz0 hz1 hz2 hx1 hR hcn hm
  go_enter Try.func42, Try.ntmps42
  go_wp2_with fail
  go_loopw [12, 6] (fun iv ov wr => ∃ (i : Nat) (l : List Nat) (a2 : Option Addr) (c2 : Nat), i ≤ m ∧ iv = .int .i64 (i : Int) ∧ ov = .slice a2 l.length c2 ∧ l.length ≤ i ∧ Hid (IsOwn 3 1 w1.heap.size wr (.slice a2 l.length c2) l.length (nats l)) ∧ Hid (Below w1.heap.size w1 wr) ∧ Hid (Mt.structF s (cs.drop i) l = R) ∧ Hid (∀ j ∈ l, j < cn)) (fun iv _ _ => m - (intOf iv).toNat)
  case atStart => exact ⟨0, [], none, 0, Nat.zero_le _, rfl, rfl, Nat.le_refl _, Lib.hid (IsOwn.nil _ _ _ _), Lib.hid (Below.refl _ _), HR0, Lib.hid (by simp)⟩
  case round =>
    obtain ⟨i, l, a2, c2, hi, rfl, rfl, hli, HO, HW, HRL, HLL⟩ := hrel
    have HB := Lib.hid (HA1.out.trans (HW.out.mono HA1.out.size))
    have HWa := Lib.hid (show Below (w.heap.size + 1) w1 wr from by have := HW.out; rwa [hs1] at this)
    by_cases hlt : i < m
    · have hil : i < cs.length := by rw [HM.out]; exact hlt
      obtain ⟨b, off, e0, hbl, hc⟩ := HCS.out i hil
      have x0 := (HB.out.cell (p := ⟨b, off + i, none⟩) hbl).trans hc
      obtain ⟨nm, hnm⟩ : ∃ nm, cs[i] = nm := ⟨_, rfl⟩
      have hnl := HFN.out _ (List.getElem_mem hil)
      have hstep := HRL.out
      rw [List.drop_eq_getElem_cons hil, Mt.structF_step] at hstep
      rw [hnm] at x0 hnl hstep
      have HK1 := Lib.hid (HK.out nm hnl)
      have hrg := HRG.out nm
      obtain ⟨k, hk⟩ : ∃ k, Mt.clAt s nm = k := ⟨_, rfl⟩
      rw [hk] at HK1 hrg hstep
      have HST := Lib.hid hstep
      obtain ⟨p0, p1⟩ := HP.out wr HWa.out
      have d1 : decide ((i : Int) < (m : Int)) = true := decide_eq_true (by omega)
      have d2 : decide (i < m) = true := decide_eq_true hlt
      have i0 : (0 : Int) ≤ (i : Int) := by omega
      subst e0
      generalize Mt.str nm = NM at *
      clear hbl hc hnm hil hk hstep hnl HRL
      go_wp2_with fail
      refine (HK1.out wr HB.out).mono ?_
      rintro e w2 ⟨rfl, hb⟩
      have HB2 := Lib.hid (HB.out.trans (hb.mono HB.out.size))
      have HW2 := Lib.hid (HW.out.trans (hb.mono HW.out.size))
      have HO2 := Lib.hid (HO.out.below hb)
      clear hb p0 p1 x0
      obtain ⟨p0, p1⟩ := HP.out w2 (by have := HW2.out; rwa [hs1] at this)
      by_cases hneg : k < 0
      · have HE : Hid (R = none) := Lib.hid (by have := HST.out; rw [if_pos hneg] at this; exact this.symm)
        have e1 : decide (k < 0) = true := decide_eq_true hneg
        have HFI2 := Lib.hid (fun (w' : World) => StructP.none (w := w) (w' := w') (cn := cn) (m := m) HE.out rfl)
        clear HE
        go_wp2_with fail
        all_goals (go_ret2; exact ⟨HFI2.out _, HB2.out⟩)
      · have e1 : decide (k < 0) = false := decide_eq_false hneg
        obtain ⟨j, rfl⟩ := Int.eq_ofNat_of_zero_le (show 0 ≤ k by omega)
        have hjc : j < cn := by omega
        have j0 : (0 : Int) ≤ (j : Int) := by omega
        have j1 : (j : Int) < (cn : Int) := by omega
        obtain ⟨b2, off2, e2, hb2, HN2⟩ := HNA.out j hjc
        obtain ⟨-, n2⟩ := HN2.out w2 HB2.out
        obtain ⟨kd, hkd⟩ : ∃ kd, (Mt.clI s (j : Int)).kind = kd := ⟨_, rfl⟩
        rw [hkd] at n2
        have HST2 : Hid ((if kd = 1 ∧ j ∉ l then Mt.structF s (cs.drop (i + 1)) (l ++ [j]) else Mt.structF s (cs.drop (i + 1)) l) = R) := Lib.hid (by
          have := HST.out
          rw [if_neg hneg, hkd, Int.toNat_natCast] at this
          exact this)
        subst e2
        clear hneg HST hkd hb2
        by_cases hk1 : kd = 1
        · subst hk1
          have HCI := Lib.hid (HCN.out w2 _ l j (IsOwn.nats HO2.out) (by omega))
          obtain ⟨q, hq⟩ : ∃ q, decide (j ∈ l) = q := ⟨_, rfl⟩
          rw [hq] at HCI
          have HQ := Lib.hid hq
          clear hq
          go_wp2_with fail
          refine (HCI.out).mono ?_
          rintro e w3 ⟨rfl, hb⟩
          have HB3 := Lib.hid (HB2.out.trans (hb.mono HB2.out.size))
          have HW3 := Lib.hid (HW2.out.trans (hb.mono HW2.out.size))
          have HO3 := Lib.hid (HO2.out.below hb)
          clear hb p0 p1 n2
          cases q with
          | true =>
            have HR3 : Hid (Mt.structF s (cs.drop (i + 1)) l = R) := Lib.hid (by rw [← HST2.out, if_neg (fun h => h.2 (of_decide_eq_true HQ.out))])
            go_wp2_with fail
            go_roundw
            case rel => exact ⟨i + 1, l, a2, c2, by omega, by go_num, rfl, by omega, HO3, HW3, HR3, HLL⟩
            case measure => simp [intOf]; omega
          | false =>
            have HR3 : Hid (Mt.structF s (cs.drop (i + 1)) (l ++ [j]) = R) := Lib.hid (by rw [← HST2.out, if_pos ⟨by first | rfl | trivial, of_decide_eq_false HQ.out⟩])
            obtain ⟨a3, c3, w5, hrun, hown, hb5⟩ := own_push (T := 65) (tx := 65) Try.underlying65 Try.underlying65 HI.out.1 HI.out.2.1 HI.out.2.2.1 HI.out.2.2.2 rfl HO3.out HW3.out.size (by intro u hu; simp only [nats, List.mem_map] at hu; obtain ⟨x, _, rfl⟩ := hu; rfl) #[.int .i64 (j : Int)] rfl (by simp [Value.oneCell']) (by omega) (by omega)
            have HO5 : Hid (IsOwn 3 1 w1.heap.size w5 (.slice a3 (l.length + 1) c3) (l ++ [j]).length (nats (l ++ [j]))) := Lib.hid (by
              rw [List.length_append]
              have e : nats (l ++ [j]) = nats l ++ (#[.int .i64 (j : Int)] : Array Value).toList := by simp [nats]
              rw [e]; exact hown)
            have HW5 := Lib.hid (HW3.out.trans hb5)
            have HLL5 : Hid (∀ x ∈ l ++ [j], x < cn) := Lib.hid (by
              intro x hx
              rcases List.mem_append.1 hx with hx | hx
              · exact HLL.out x hx
              · rw [List.mem_singleton] at hx; rw [hx]; exact hjc)
            clear hown hb5
            go_wp2_with (refine wpList_append_run rfl _ _ 65 65 rfl _ _ rfl rfl hrun ?_)
            go_roundw
            case rel => exact ⟨i + 1, l ++ [j], a3, c3, by omega, by go_num, by rw [List.length_append]; rfl, by rw [List.length_append]; simp; omega, by rw [List.length_append] at HO5 ⊢; exact HO5, HW5, HR3, HLL5⟩
            case measure => simp [intOf]; omega
        · have g1 : (kd == 1) = false := beq_eq_false_iff_ne.2 hk1
          have HR3 : Hid (Mt.structF s (cs.drop (i + 1)) l = R) := Lib.hid (by rw [← HST2.out, if_neg (fun h => hk1 h.1)])
          clear hk1
          go_wp2_with fail
          go_roundw
          case rel => exact ⟨i + 1, l, a2, c2, by omega, by go_num, rfl, by omega, HO2, HW2, HR3, HLL⟩
          case measure => simp [intOf]; omega
    · obtain rfl : i = m := by omega
      have d1 : decide ((i : Int) < (i : Int)) = false := decide_eq_false (by omega)
      have d2 : decide (i < i) = false := decide_eq_false (by omega)
      have HE : Hid (R = some l) := Lib.hid (by
        rw [← HRL.out, List.drop_of_length_le (by rw [HM.out]; exact Nat.le_refl _)]; rfl)
      have HFIN := Lib.hid (HO.out.mono HA1.out.size)
      have HFI2 := Lib.hid (StructP.some (w := w) (w' := wr) (cn := cn) (m := i) (o := .slice a2 l.length c2) HE.out rfl HFIN.out HLL.out hli)
      clear HE
      go_wp2_with fail
      go_ret2
      exact ⟨HFI2.out, HB.out⟩
end Go.Proofs.Ytkinemlgifeimaa

/-
  The structural class of some classes.
-/
namespace Go.Proofs.Ytkinemlgifeimaa
open Go.RowKit

theorem Mt.kindL_step (s : Mt.Sc) (l : List Nat) (i : Nat) (h : i < l.length) (A : List Nat) : (l.drop i).find? (fun (a : Nat) => Mt.hasAll A (Mt.chain s (Mt.clI s (a : Int)).name)) = if Mt.hasAll A (Mt.chain s (Mt.clI s (l[i] : Int)).name) = true then some l[i] else (l.drop (i + 1)).find? (fun (a : Nat) => Mt.hasAll A (Mt.chain s (Mt.clI s (a : Int)).name)) := by
  rw [List.drop_eq_getElem_cons h, List.find?_cons]
  cases Mt.hasAll A (Mt.chain s (Mt.clI s (l[i] : Int)).name) <;> rfl
theorem Mt.hasAll_step (l c : List Nat) (i : Nat) (h : i < l.length) : Mt.hasAll (l.drop i) c = (decide (l[i] ∈ c) && Mt.hasAll (l.drop (i + 1)) c) := by
  rw [List.drop_eq_getElem_cons h]; rfl
def KindP (s : Mt.Sc) (K : Option Nat) : Value := match K with
  | some a => .tuple #[.string (Mt.str (Mt.clI s (a : Int)).name), .bool true]
  | none => .tuple #[.string ⟨#[]⟩, .bool false]
def kindV (o : List UInt8 × Bool) : Value := .tuple #[.string (Mt.str o.1), .bool o.2]
theorem kindV_none {s : Mt.Sc} {cs : List (List UInt8)} (h : Mt.structF s cs [] = none) : kindV (Mt.kindS s cs) = .tuple #[.string ⟨#[]⟩, .bool false] := by unfold Mt.kindS; rw [h]; rfl
theorem kindV_some {s : Mt.Sc} {cs : List (List UInt8)} {l : List Nat} (h : Mt.structF s cs [] = some l) : kindV (Mt.kindS s cs) = KindP s (Mt.kindL s l) := by
  unfold Mt.kindS; rw [h]
  show kindV (match Mt.kindL s l with
    | some a => ((Mt.clI s (a : Int)).name, true)
    | none => ([], false)) = _
  cases Mt.kindL s l <;> rfl
set_option maxRecDepth 100000 in
set_option maxHeartbeats 1000000 in
theorem kind13_any {tv cv v : Value} {s : Mt.Sc} {cs : List (List UInt8)} {w : World} (h : IsSc w tv cv s) (hv : IsNms w v cs) (hf : FitN cs) :
    Calls Try.prog 23 #[.agg #[tv, cv], v] w fun e w' => e = .returned (kindV (Mt.kindS s cs)) ∧ Below w.heap.size w w' := by
  have HSTR := Lib.hid (fun (u : World) (hb : Below w.heap.size w u) => structural_any (h.below hb) (hv.below hb) hf)
  have HCH := Lib.hid (fun (n : List UInt8) (hn : n.length ≤ 140737488351232) (u : World) (hb : Below w.heap.size w u) => chain_any n hn (h.below hb))
  have HCN := Lib.hid (fun (u : World) (o : Value) (r : List Nat) (k : Nat) (ho : IsNats u o r) (hr : r.length ≤ 8796093022208) => containsInt_any ho k hr)
  have hclen := hf.1
  have hcl := h.clen
  have HNM : Hid (∀ j, j < s.classes.length → (Mt.clI s (j : Int)).name.length ≤ 140737488351232) := Lib.hid (fun j hj => by rw [Mt.clI_get hj]; have := (h.cnm _ (List.getElem_mem hj)).1; omega)
  obtain ⟨ta, tcap, hv1, -, -⟩ := h.types
  obtain ⟨ca, ccap, hv2, -, -⟩ := h.classes
  have HNA := Lib.hid (fun (j : Nat) (hj : j < s.classes.length) => name_at h hv2 j hj)
  obtain ⟨na, ncap, hv3, -, -⟩ := id hv
  have HCL := Lib.hid (fun n => Mt.chain_len s n)
  subst hv1 hv2 hv3
  obtain ⟨tn, htn⟩ : ∃ tn, s.types.length = tn := ⟨_, rfl⟩
  obtain ⟨cn, hcn⟩ : ∃ cn, s.classes.length = cn := ⟨_, rfl⟩
  rw [htn, hcn] at HSTR HCH
  rw [hcn] at HNM HNA hcl HCL
  rw [htn, hcn]
  generalize cs.length = m at *
  obtain ⟨w1, hw1⟩ : ∃ w1, w.alloc (.cells #[.slice ta tn tcap, .slice ca cn ccap] 25) = w1 := ⟨_, rfl⟩
  have hA1 : Below w.heap.size w w1 := by rw [← hw1]; exact (Below.refl _ w).alloc (Nat.le_refl _) _
  have hs1 : w1.heap.size = w.heap.size + 1 := by rw [← hw1]; simp
  have hx1 : w1.heap[w.heap.size]? = some (.cells #[.slice ta tn tcap, .slice ca cn ccap] 25) := by rw [← hw1]; exact heap_alloc_new w _
  have p0 : w1.cell? ⟨w.heap.size, 0, none⟩ = some (.slice ta tn tcap) := by rw [cell_of_row _ _ _ _ _ _ hx1]; rfl
  have p1 : w1.cell? ⟨w.heap.size, 1, none⟩ = some (.slice ca cn ccap) := by rw [cell_of_row _ _ _ _ _ _ hx1]; rfl
  obtain ⟨w2, hw2⟩ : ∃ w2, w1.alloc (.cells #[.slice ta tn tcap, .slice ca cn ccap] 59) = w2 := ⟨_, rfl⟩
  have hA2 : Below w1.heap.size w1 w2 := by rw [← hw2]; exact (Below.refl _ w1).alloc (Nat.le_refl _) _
  have HA2 := Lib.hid (hA1.trans (hA2.mono (by omega)))
  have hs2 : w2.heap.size = w.heap.size + 2 := by rw [← hw2]; simp [hs1]
  have hx2 : w2.heap[w1.heap.size]? = some (.cells #[.slice ta tn tcap, .slice ca cn ccap] 59) := by rw [← hw2]; exact heap_alloc_new w1 _
  rw [hs1] at hx2
  have HP : Hid (∀ u, Below w2.heap.size w2 u → u.cell? ⟨w.heap.size + 1, 0, none⟩ = some (.slice ta tn tcap) ∧ u.cell? ⟨w.heap.size + 1, 1, none⟩ = some (.slice ca cn ccap)) := Lib.hid (fun u hu => by
    have r1 := (hu.block (w.heap.size + 1) (by omega)).trans hx2
    exact ⟨by rw [cell_of_row _ _ _ _ _ _ r1]; rfl, by rw [cell_of_row _ _ _ _ _ _ r1]; rfl⟩)
  obtain ⟨q0, q1⟩ := HP.out w2 (Below.refl _ _)
  obtain ⟨R, hR⟩ : ∃ R, kindV (Mt.kindS s cs) = R := ⟨_, rfl⟩
  have HRN := Lib.hid (fun hn => hR.symm.trans (kindV_none (s := s) (cs := cs) hn))
  have HRS := Lib.hid (fun l hn => hR.symm.trans (kindV_some (s := s) (cs := cs) (l := l) hn))
  rw [hR]
  obtain ⟨S, hS⟩ : ∃ S, Mt.structF s cs [] = S := ⟨_, rfl⟩
  rw [hS] at HSTR HRN HRS
  clear h hv hf hx1 hx2 hA1 hA2 hR hS htn hcn
  go_enter Try.func23, Try.ntmps23
  go_wp2_with fail
  go_step3
  go_wp2_with fail
  refine (HSTR.out _ HA2.out).mono ?_
  rintro e w3 ⟨hst, hb⟩
  have HB3 := Lib.hid (HA2.out.trans (hb.mono HA2.out.size))
  have HW3 := Lib.hid hb
  clear hb p0 p1 q0 q1 HSTR
  cases S with
  | none =>
    have he : e = Ending.returned (.tuple #[.slice none 0 0, .bool false]) := hst
    subst he
    have HE := Lib.hid (HRN.out rfl)
    go_wp2_with fail
    all_goals ((try rw [Exit.noGoto_ret]); go_ret2; exact ⟨by rw [HE.out]; rfl, HB3.out⟩)
  | some l =>
    obtain ⟨o, rfl, hown, hll, hlm⟩ := hst
    have HE := Lib.hid (HRS.out l rfl)
    obtain ⟨la, lcap, rfl, hlc, HL⟩ := IsOwn.nats hown
    have HON : Hid (∀ u, Below w3.heap.size w3 u → IsNats u (.slice la l.length lcap) l) := Lib.hid (fun u hu => (IsOwn.nats hown).below hu)
    have HLL := Lib.hid hll
    have HK0 := Lib.hid (show (l.drop 0).find? (fun (a : Nat) => Mt.hasAll l (Mt.chain s (Mt.clI s (a : Int)).name)) = Mt.kindL s l from rfl)
    obtain ⟨K, hK⟩ : ∃ K, Mt.kindL s l = K := ⟨_, rfl⟩
    rw [hK] at HK0 HE
    obtain ⟨ln, hln⟩ : ∃ ln, l.length = ln := ⟨_, rfl⟩
    have HLN := Lib.hid hln
    rw [hln] at hlc hlm HON ⊢
    have HQ := Lib.hid (fun (u : World) (hu : Below w3.heap.size w3 u) => HP.out u (HW3.out.trans (hu.mono HW3.out.size)))
    clear hown hll hK hln HRN HRS
    go_wp2_with fail
    go_step3
    go_wp2_with fail
    go_loopg [26] ln (fun g iv wr => ∃ i : Nat, i + g = ln ∧ iv = .int .i64 (i : Int) ∧ Hid ((l.drop i).find? (fun (a : Nat) => Mt.hasAll l (Mt.chain s (Mt.clI s (a : Int)).name)) = K) ∧ Hid (Below w3.heap.size w3 wr))
    case atStart => exact ⟨0, by omega, rfl, HK0, Lib.hid (Below.refl _ _)⟩
    case round =>
      obtain ⟨i, hig, rfl, HI, HW⟩ := hrel
      have HB := Lib.hid (HB3.out.trans (HW.out.mono HB3.out.size))
      obtain ⟨q0, q1⟩ := HQ.out wr HW.out
      cases gk with
      | zero =>
        obtain rfl : i = ln := by omega
        have d1 : decide ((i : Int) < (i : Int)) = false := decide_eq_false (by omega)
        have d2 : decide (i < i) = false := decide_eq_false (by omega)
        have HKN : Hid (R = KindP s none) := Lib.hid (by
          rw [HE.out, ← HI.out, List.drop_of_length_le (by rw [HLN.out]; exact Nat.le_refl _)]; rfl)
        have HKE : Hid (R = .tuple #[.string ⟨#[]⟩, .bool false]) := Lib.hid HKN.out
        go_wp2_with fail
        all_goals ((try rw [Exit.noGoto_ret]); go_ret2; exact ⟨by rw [HKE.out]; rfl, HB.out⟩)
      | succ g =>
        have hlt : i < ln := by omega
        have hil : i < l.length := by rw [HLN.out]; exact hlt
        obtain ⟨b, off, e0, hbl, hc⟩ := HL.out i hil
        have x0 := (HW.out.cell (p := ⟨b, off + i, none⟩) hbl).trans hc
        have hst := Mt.kindL_step s l i hil l
        rw [HI.out] at hst
        obtain ⟨j, hj⟩ : ∃ j, l[i] = j := ⟨_, rfl⟩
        have hjc := HLL.out _ (List.getElem_mem hil)
        rw [hj] at x0 hjc hst
        have HST := Lib.hid hst
        obtain ⟨b2, off2, e2, hb2, HN2⟩ := HNA.out j hjc
        obtain ⟨n0, -⟩ := HN2.out wr HB.out
        have HC1 := Lib.hid (HCH.out _ (HNM.out j hjc))
        have hcle := HCL.out (Mt.clI s (j : Int)).name
        obtain ⟨C, hC⟩ : ∃ C, Mt.chain s (Mt.clI s (j : Int)).name = C := ⟨_, rfl⟩
        rw [hC] at HC1 hcle HST
        have HKP : Hid (KindP s (some j) = .tuple #[.string (Mt.str (Mt.clI s (j : Int)).name), .bool true]) := Lib.hid rfl
        obtain ⟨NM, hNM⟩ : ∃ NM, Mt.str (Mt.clI s (j : Int)).name = NM := ⟨_, rfl⟩
        rw [hNM] at n0 HC1 HKP HN2
        have d1 : decide ((i : Int) < (ln : Int)) = true := decide_eq_true (by omega)
        have d2 : decide (i < ln) = true := decide_eq_true hlt
        have i0 : (0 : Int) ≤ (i : Int) := by omega
        have j0 : (0 : Int) ≤ (j : Int) := by omega
        have j1 : (j : Int) < (cn : Int) := by omega
        subst e0 e2
        clear hbl hc hj hNM hil hb2 hst hC HI
        go_upto_region 8 with fail
        have HBd := Lib.hid HB.out.drew
        have HWd := Lib.hid HW.out.drew
        go_region_law (first | (go_simp; go_at_call 38; refine (HC1.out _ HBd.out).mono ?_; rintro e w4 ⟨cv, rfl, hown, hb⟩; obtain ⟨ca4, cc4, rfl, -, -⟩ := IsOwn.nats hown; have HO4 := Lib.hid (IsOwn.nats hown); have HB4 := Lib.hid (HBd.out.trans (hb.mono HBd.out.size)); have HW4 := Lib.hid (HWd.out.trans (hb.mono HWd.out.size)); clear hown hb))
        all_goals
          obtain ⟨Q, hQ⟩ : ∃ Q, Mt.hasAll l C = Q := ⟨_, rfl⟩
          rw [hQ] at HST
          have HQ0 := Lib.hid (show Mt.hasAll (l.drop 0) C = Q from hQ)
          clear hQ x0 n0 q0 q1
          go_wp2_with fail
          go_loopg [41] ln (fun g2 iv wy => ∃ j2 : Nat, j2 + g2 = ln ∧ iv = .int .i64 (j2 : Int) ∧ Hid (Mt.hasAll (l.drop j2) C = Q) ∧ Hid (Below w4.heap.size w4 wy))
          case atStart => exact ⟨0, by omega, rfl, HQ0, Lib.hid (Below.refl _ _)⟩
          case round =>
            obtain ⟨j2, hjg, rfl, HJ, HY⟩ := hrel
            have HBY := Lib.hid (HB4.out.trans (HY.out.mono HB4.out.size))
            have HWY := Lib.hid (HW4.out.trans (HY.out.mono HW4.out.size))
            obtain ⟨q0, q1⟩ := HQ.out wr HWY.out
            cases gk with
            | zero =>
              obtain rfl : j2 = ln := by omega
              have d3 : decide ((j2 : Int) < (j2 : Int)) = false := decide_eq_false (by omega)
              have d4 : decide (j2 < j2) = false := decide_eq_false (by omega)
              have hQt : Q = true := by rw [← HJ.out, List.drop_of_length_le (by rw [HLN.out]; exact Nat.le_refl _)]; rfl
              have HKS : Hid (R = .tuple #[.string NM, .bool true]) := Lib.hid (by
                rw [HE.out, HST.out, hQt, if_pos rfl]; exact HKP.out)
              obtain ⟨n0, -⟩ := HN2.out wr HBY.out
              clear hQt
              go_wp2_with fail
              all_goals ((try rw [Exit.noGoto_ret]); go_ret2; exact ⟨by rw [HKS.out]; rfl, HBY.out⟩)
            | succ g2 =>
              have hlt2 : j2 < ln := by omega
              have hjl : j2 < l.length := by rw [HLN.out]; exact hlt2
              obtain ⟨b3, off3, e3, hbl3, hc3⟩ := HL.out j2 hjl
              cases e3
              have x1 := (HWY.out.cell (p := ⟨b, off + j2, none⟩) hbl3).trans hc3
              have hst2 := Mt.hasAll_step l C j2 hjl
              rw [HJ.out] at hst2
              obtain ⟨o, ho⟩ : ∃ o, l[j2] = o := ⟨_, rfl⟩
              rw [ho] at x1 hst2
              have HCI := Lib.hid (HCN.out wr _ C o (HO4.out.below HY.out) (by omega))
              obtain ⟨z, hz⟩ : ∃ z, decide (o ∈ C) = z := ⟨_, rfl⟩
              rw [hz] at HCI hst2
              have HS2 := Lib.hid hst2
              have d3 : decide ((j2 : Int) < (ln : Int)) = true := decide_eq_true (by omega)
              have d4 : decide (j2 < ln) = true := decide_eq_true hlt2
              have i2 : (0 : Int) ≤ (j2 : Int) := by omega
              clear hbl3 hc3 ho hjl hst2 hz
              go_wp2_with fail
              refine (HCI.out).mono ?_
              rintro e w5 ⟨rfl, hb⟩
              have HB5 := Lib.hid (HBY.out.trans (hb.mono HBY.out.size))
              have HW5 := Lib.hid (HWY.out.trans (hb.mono HWY.out.size))
              have HY5 := Lib.hid (HY.out.trans (hb.mono HY.out.size))
              clear hb x1 q0 q1
              cases z with
              | false =>
                have HKR : Hid ((l.drop (i + 1)).find? (fun (a : Nat) => Mt.hasAll l (Mt.chain s (Mt.clI s (a : Int)).name)) = K) := Lib.hid (by
                  have hQf : Q = false := HS2.out
                  rw [HST.out, hQf, if_neg (by decide)])
                go_wp2_with fail
                go_roundg g
                case measure => omega
                case rel => exact ⟨i + 1, by omega, by first | rfl | go_num, HKR, HW5⟩
              | true =>
                have HJ2 : Hid (Mt.hasAll (l.drop (j2 + 1)) C = Q) := Lib.hid (by rw [HS2.out]; rfl)
                go_wp2_with fail
                go_roundg g2
                case measure => omega
                case rel => exact ⟨j2 + 1, by omega, by first | rfl | go_num, HJ2, HY5⟩
end Go.Proofs.Ytkinemlgifeimaa
