/-
  The structural ones among classes; which one's chain has them all.
-/
import Derived.Test.YthkhicpkkmhfbaaScI
namespace Go.Proofs.Ythkhicpkkmhfbaa
open Go.RowKit

namespace Mt
def structF (s : Sc) : List (List UInt8) → List Nat → Option (List Nat)
  | [], out => some out
  | n :: r, out => if clAt s n < 0 then none else if (clI s (clAt s n)).kind = 1 ∧ (clAt s n).toNat ∉ out then structF s r (out ++ [(clAt s n).toNat]) else structF s r out
def hasAll (l : List Nat) (c : List Nat) : Bool := l.all fun o => decide (o ∈ c)
def kindL (s : Sc) (l : List Nat) : Option Nat := l.find? fun (a : Nat) => hasAll l (chain s (clI s (a : Int)).name)
def kindS (s : Sc) (cs : List (List UInt8)) : List UInt8 × Bool := match structF s cs [] with
  | none => ([], false)
  | some l => match kindL s l with
    | some a => ((clI s (a : Int)).name, true)
    | none => ([], false)
end Mt
set_option maxRecDepth 100000 in
theorem containsInt_any {w : World} {v : Value} {r : List Nat} (hv : IsNats w v r) (k : Nat) (hn : r.length ≤ 8796093022208) :
    Calls Try.prog 43 #[v, .int .i64 (k : Int)] w fun e w' => e = .returned (.bool (decide (k ∈ r))) ∧ Below w.heap.size w w' := by
  obtain ⟨a, cap, rfl, hcap, hcell⟩ := hv
  have hd := Mt.atL_spec (fun x : Nat => decide (x = k)) r
  have hany := Mt.atL_any (fun x : Nat => decide (x = k)) r
  have hmem : r.any (fun x => decide (x = k)) = decide (k ∈ r) := by
    rw [Bool.eq_iff_iff, List.any_eq_true, decide_eq_true_eq]
    constructor
    · rintro ⟨x, hx, h⟩; rw [decide_eq_true_eq] at h; rw [← h]; exact hx
    · intro h; exact ⟨k, h, decide_eq_true rfl⟩
  obtain ⟨q, hq⟩ : ∃ q, Mt.atL (fun x : Nat => decide (x = k)) r = q := ⟨_, rfl⟩
  rw [hq] at hd hany
  rw [← hmem, ← hany]
  obtain ⟨z, hz⟩ : ∃ z, decide (0 ≤ q) = z := ⟨_, rfl⟩
  rw [hz]
  have HD := Lib.hid hd
  have HZ := Lib.hid hz
  clear hd hany hmem hq hz
  obtain ⟨m0, hm0⟩ : ∃ m, r.length = m := ⟨_, rfl⟩
  have HL := Lib.hid hm0
  rw [hm0] at hn ⊢
  clear hm0 hcap
  have HIDX : Hid (Calls Try.prog 61 #[.slice a m0 cap, .int .i64 (k : Int)] w fun e w' => e = .returned (.int .i64 q) ∧ Below w.heap.size w w') := by
    refine Lib.hid ?_
    go_enter Try.func61, Try.ntmps61
    go_wp2_with fail
    go_loopw [8] (fun i wr => ∃ m : Nat, m ≤ m0 ∧ i = .int .i64 m ∧ Hid (∀ j (hj : j < r.length), j < m → decide (r[j] = k) = false) ∧ Hid (Below w.heap.size w wr))
      (fun i _ => m0 - (intOf i).toNat)
    case atStart => exact ⟨0, Nat.zero_le _, rfl, Lib.hid fun j _ h => absurd h (Nat.not_lt_zero _), Lib.hid (Below.refl _ _)⟩
    case round =>
      obtain ⟨m, hm, rfl, HO, HB⟩ := hrel
      by_cases hlt : m < m0
      · have hmr : m < r.length := by rw [HL.out]; exact hlt
        obtain ⟨b, off, e0, hbl, h0⟩ := hcell.out m hmr
        subst e0
        have x0 := (HB.out.cell (p := ⟨b, off + m, none⟩) hbl).trans h0
        obtain ⟨t, ht⟩ : ∃ t, r[m] = t := ⟨_, rfl⟩
        rw [ht] at x0
        have d1 : decide ((m : Int) < (m0 : Int)) = true := decide_eq_true (by omega)
        have d2 : decide (m < m0) = true := decide_eq_true hlt
        have i0 : (0 : Int) ≤ (m : Int) := by omega
        by_cases htk : t = k
        · have HQ : Hid (q = m) := Lib.hid (by
            rcases HD.out with ⟨_, h2⟩ | ⟨m2, h2, hm2, h3, h4⟩
            · have := h2 m hmr; rw [ht, decide_eq_true htk] at this; cases this
            · rw [h2]
              by_cases e : m2 = m
              · rw [e]
              · rcases Nat.lt_or_ge m2 m with h5 | h5
                · have := HO.out m2 hm2 h5; rw [h3] at this; cases this
                · have := h4 m (by omega); rw [ht, decide_eq_true htk] at this; cases this)
          have e1 : ((k : Int) == (t : Int)) = true := beq_iff_eq.2 (by omega)
          subst htk
          clear hbl h0 ht hmr
          go_wp2_with fail
          all_goals (go_ret; exact ⟨Mt.ret_int HQ.out.symm, HB.out⟩)
        · have e1 : ((k : Int) == (t : Int)) = false := beq_eq_false_iff_ne.2 (by omega)
          have e2 : (k == t) = false := beq_eq_false_iff_ne.2 (fun h => htk h.symm)
          have HO2 : Hid (∀ j (hj : j < r.length), j < m + 1 → decide (r[j] = k) = false) := Lib.hid (by
            intro j hj hlt2
            by_cases e : j = m
            · subst e; rw [ht, decide_eq_false htk]
            · exact HO.out j hj (by omega))
          clear hbl h0 ht hmr htk
          go_wp2_with fail
          go_roundw
          case rel => exact ⟨m + 1, by omega, by go_num, HO2, HB⟩
          case measure => simp [intOf]; omega
      · have HQ : Hid (q = -1) := Lib.hid (by
          rcases HD.out with ⟨h1, _⟩ | ⟨m2, h2, hm2, h3, h4⟩
          · exact h1
          · have := HO.out m2 hm2 (by have := HL.out; omega); rw [h3] at this; cases this)
        have d1 : decide ((m : Int) < (m0 : Int)) = false := decide_eq_false (by omega)
        have d2 : decide (m < m0) = false := decide_eq_false hlt
        go_wp2_with fail
        go_ret
        exact ⟨Mt.ret_int HQ.out.symm, HB.out⟩
  have d1 : decide (0 ≤ q) = z := HZ.out
  go_enter Try.func43, Try.ntmps43
  go_wp2_with fail
  refine (HIDX.out).mono ?_
  rintro e w' ⟨rfl, hb⟩
  have HB := Lib.hid hb
  clear hb
  go_wp2_with fail
  go_ret
  exact ⟨rfl, HB.out⟩
/-- The classes' names. -/
def FitN (cs : List (List UInt8)) : Prop := cs.length ≤ 8796093022208 ∧ ∀ n ∈ cs, n.length ≤ 140737488351232
theorem Mt.structF_step (s : Mt.Sc) (n : List UInt8) (r : List (List UInt8)) (out : List Nat) : Mt.structF s (n :: r) out = if Mt.clAt s n < 0 then none else if (Mt.clI s (Mt.clAt s n)).kind = 1 ∧ (Mt.clAt s n).toNat ∉ out then Mt.structF s r (out ++ [(Mt.clAt s n).toNat]) else Mt.structF s r out := rfl
def StructP (w : World) (cn m : Nat) (R : Option (List Nat)) (e : Ending) (w' : World) : Prop := match R with
  | none => e = Ending.returned (.tuple #[.slice none 0 0, .bool false])
  | some l => ∃ o, e = Ending.returned (.tuple #[o, .bool true]) ∧ IsOwn 3 1 w.heap.size w' o l.length (nats l) ∧ (∀ j ∈ l, j < cn) ∧ l.length ≤ m
theorem StructP.none {w w' : World} {cn m : Nat} {R : Option (List Nat)} (h : R = none) {e : Ending} (he : e = Ending.returned (.tuple #[.slice none 0 0, .bool false])) : StructP w cn m R e w' := by subst h; exact he
theorem StructP.some {w w' : World} {cn m : Nat} {R : Option (List Nat)} {l : List Nat} (h : R = some l) {e : Ending} {o : Value} (he : e = Ending.returned (.tuple #[o, .bool true])) (ho : IsOwn 3 1 w.heap.size w' o l.length (nats l)) (h1 : ∀ j ∈ l, j < cn) (h2 : l.length ≤ m) : StructP w cn m R e w' := by subst h; exact ⟨o, he, ho, h1, h2⟩
set_option maxRecDepth 100000 in
set_option maxHeartbeats 1000000 in
theorem structural_any {tv cv v : Value} {s : Mt.Sc} {cs : List (List UInt8)} {w : World} (h : IsSc w tv cv s) (hv : IsNms w v cs) (hf : FitN cs) :
    Calls Try.prog 42 #[.agg #[tv, cv], v] w fun e w' => StructP w s.classes.length cs.length (Mt.structF s cs []) e w' ∧ Below w.heap.size w w' := by
  have HK := Lib.hid (fun (n : List UInt8) (hn : n.length ≤ 140737488351232) (u : World) (hb : Below w.heap.size w u) => classAt_any n hn (h.below hb))
  have HCN := Lib.hid (fun (u : World) (o : Value) (r : List Nat) (k : Nat) (ho : IsNats u o r) (hr : r.length ≤ 8796093022208) => containsInt_any ho k hr)
  have HRG := Lib.hid (fun (n : List UInt8) => Mt.clAt_range s n)
  have HFN := Lib.hid hf.2
  have hclen := hf.1
  obtain ⟨i0, hi, hz0, hz1, hz2⟩ := info_parts Try.infoInt13
  have HI := Lib.hid (And.intro hi (And.intro hz0 (And.intro hz1 hz2)))
  obtain ⟨ca, ccap, hv2, -, -⟩ := h.classes
  have HNA := Lib.hid (fun (j : Nat) (hj : j < s.classes.length) => name_at h hv2 j hj)
  obtain ⟨na, ncap, rfl, hnc, HCS⟩ := hv
  obtain ⟨R, hR⟩ : ∃ R, Mt.structF s cs [] = R := ⟨_, rfl⟩
  have HR0 := Lib.hid (show Mt.structF s (cs.drop 0) [] = R from hR)
  rw [hR]
  subst hv2
  obtain ⟨cn, hcn⟩ : ∃ cn, s.classes.length = cn := ⟨_, rfl⟩
  rw [hcn] at HNA HRG HK ⊢
  obtain ⟨m, hm⟩ : ∃ m, cs.length = m := ⟨_, rfl⟩
  have HM := Lib.hid hm
  rw [hm] at hclen hnc ⊢
  obtain ⟨w1, hw1⟩ : ∃ w1, w.alloc (.cells #[tv, .slice ca cn ccap] 59) = w1 := ⟨_, rfl⟩
  have HA1 : Hid (Below w.heap.size w w1) := Lib.hid (by rw [← hw1]; exact (Below.refl _ w).alloc (Nat.le_refl _) _)
  have hs1 : w1.heap.size = w.heap.size + 1 := by rw [← hw1]; simp
  have hx1 : w1.heap[w.heap.size]? = some (.cells #[tv, .slice ca cn ccap] 59) := by rw [← hw1]; exact heap_alloc_new w _
  have HP : Hid (∀ u, Below (w.heap.size + 1) w1 u → u.cell? ⟨w.heap.size, 0, none⟩ = some tv ∧ u.cell? ⟨w.heap.size, 1, none⟩ = some (.slice ca cn ccap)) := Lib.hid (fun u hu => by
    have r1 := (hu.block w.heap.size (by omega)).trans hx1
    exact ⟨by rw [cell_of_row _ _ _ _ _ _ r1]; rfl, by rw [cell_of_row _ _ _ _ _ _ r1]; rfl⟩)
  clear h hf hi hz0 hz1 hz2 hx1 hR hcn hm
  go_enter Try.func42, Try.ntmps42
  go_wp2_with fail
  go_loopw [12, 6] (fun iv ov wr => ∃ (i : Nat) (l : List Nat) (a2 : Option Addr) (c2 : Nat), i ≤ m ∧ iv = .int .i64 (i : Int) ∧ ov = .slice a2 l.length c2 ∧ l.length ≤ i ∧ Hid (IsOwn 3 1 w1.heap.size wr (.slice a2 l.length c2) l.length (nats l)) ∧ Hid (Below w1.heap.size w1 wr) ∧ Hid (Mt.structF s (cs.drop i) l = R) ∧ Hid (∀ j ∈ l, j < cn)) (fun iv _ _ => m - (intOf iv).toNat)
  case atStart => exact ⟨0, [], none, 0, Nat.zero_le _, rfl, rfl, Nat.le_refl _, Lib.hid (IsOwn.nil _ _ _ _), Lib.hid (Below.refl _ _), HR0, Lib.hid (by simp)⟩
  case round =>
    obtain ⟨i, l, a2, c2, hi, rfl, rfl, hli, HO, HW, HRL, HLL⟩ := hrel
    have HB := Lib.hid (HA1.out.trans (HW.out.mono HA1.out.size))
    have HWa := Lib.hid (show Below (w.heap.size + 1) w1 wr from by have := HW.out; rwa [hs1] at this)
    by_cases hlt : i < m
    · have hil : i < cs.length := by rw [HM.out]; exact hlt
      obtain ⟨b, off, e0, hbl, hc⟩ := HCS.out i hil
      have x0 := (HB.out.cell (p := ⟨b, off + i, none⟩) hbl).trans hc
      obtain ⟨nm, hnm⟩ : ∃ nm, cs[i] = nm := ⟨_, rfl⟩
      have hnl := HFN.out _ (List.getElem_mem hil)
      have hstep := HRL.out
      rw [List.drop_eq_getElem_cons hil, Mt.structF_step] at hstep
      rw [hnm] at x0 hnl hstep
      have HK1 := Lib.hid (HK.out nm hnl)
      have hrg := HRG.out nm
      obtain ⟨k, hk⟩ : ∃ k, Mt.clAt s nm = k := ⟨_, rfl⟩
      rw [hk] at HK1 hrg hstep
      have HST := Lib.hid hstep
      obtain ⟨p0, p1⟩ := HP.out wr HWa.out
      have d1 : decide ((i : Int) < (m : Int)) = true := decide_eq_true (by omega)
      have d2 : decide (i < m) = true := decide_eq_true hlt
      have i0 : (0 : Int) ≤ (i : Int) := by omega
      subst e0
      generalize Mt.str nm = NM at *
      clear hbl hc hnm hil hk hstep hnl HRL
      go_wp2_with fail
      refine (HK1.out wr HB.out).mono ?_
      rintro e w2 ⟨rfl, hb⟩
      have HB2 := Lib.hid (HB.out.trans (hb.mono HB.out.size))
      have HW2 := Lib.hid (HW.out.trans (hb.mono HW.out.size))
      have HO2 := Lib.hid (HO.out.below hb)
      clear hb p0 p1 x0
      obtain ⟨p0, p1⟩ := HP.out w2 (by have := HW2.out; rwa [hs1] at this)
      by_cases hneg : k < 0
      · have HE : Hid (R = none) := Lib.hid (by have := HST.out; rw [if_pos hneg] at this; exact this.symm)
        have e1 : decide (k < 0) = true := decide_eq_true hneg
        have HFI2 := Lib.hid (fun (w' : World) => StructP.none (w := w) (w' := w') (cn := cn) (m := m) HE.out rfl)
        clear HE
        go_wp2_with fail
        all_goals (go_ret2; exact ⟨HFI2.out _, HB2.out⟩)
      · have e1 : decide (k < 0) = false := decide_eq_false hneg
        obtain ⟨j, rfl⟩ := Int.eq_ofNat_of_zero_le (show 0 ≤ k by omega)
        have hjc : j < cn := by omega
        have j0 : (0 : Int) ≤ (j : Int) := by omega
        have j1 : (j : Int) < (cn : Int) := by omega
        obtain ⟨b2, off2, e2, hb2, HN2⟩ := HNA.out j hjc
        obtain ⟨-, n2⟩ := HN2.out w2 HB2.out
        obtain ⟨kd, hkd⟩ : ∃ kd, (Mt.clI s (j : Int)).kind = kd := ⟨_, rfl⟩
        rw [hkd] at n2
        have HST2 : Hid ((if kd = 1 ∧ j ∉ l then Mt.structF s (cs.drop (i + 1)) (l ++ [j]) else Mt.structF s (cs.drop (i + 1)) l) = R) := Lib.hid (by
          have := HST.out
          rw [if_neg hneg, hkd, Int.toNat_natCast] at this
          exact this)
        subst e2
        clear hneg HST hkd hb2
        by_cases hk1 : kd = 1
        · subst hk1
          have HCI := Lib.hid (HCN.out w2 _ l j (IsOwn.nats HO2.out) (by omega))
          obtain ⟨q, hq⟩ : ∃ q, decide (j ∈ l) = q := ⟨_, rfl⟩
          rw [hq] at HCI
          have HQ := Lib.hid hq
          clear hq
          go_wp2_with fail
          refine (HCI.out).mono ?_
          rintro e w3 ⟨rfl, hb⟩
          have HB3 := Lib.hid (HB2.out.trans (hb.mono HB2.out.size))
          have HW3 := Lib.hid (HW2.out.trans (hb.mono HW2.out.size))
          have HO3 := Lib.hid (HO2.out.below hb)
          clear hb p0 p1 n2
          cases q with
          | true =>
            have HR3 : Hid (Mt.structF s (cs.drop (i + 1)) l = R) := Lib.hid (by rw [← HST2.out, if_neg (fun h => h.2 (of_decide_eq_true HQ.out))])
            go_wp2_with fail
            go_roundw
            case rel => exact ⟨i + 1, l, a2, c2, by omega, by go_num, rfl, by omega, HO3, HW3, HR3, HLL⟩
            case measure => simp [intOf]; omega
          | false =>
            have HR3 : Hid (Mt.structF s (cs.drop (i + 1)) (l ++ [j]) = R) := Lib.hid (by rw [← HST2.out, if_pos ⟨by first | rfl | trivial, of_decide_eq_false HQ.out⟩])
            obtain ⟨a3, c3, w5, hrun, hown, hb5⟩ := own_push (T := 65) (tx := 65) Try.underlying65 Try.underlying65 HI.out.1 HI.out.2.1 HI.out.2.2.1 HI.out.2.2.2 rfl HO3.out HW3.out.size (by intro u hu; simp only [nats, List.mem_map] at hu; obtain ⟨x, _, rfl⟩ := hu; rfl) #[.int .i64 (j : Int)] rfl (by simp [Value.oneCell']) (by omega) (by omega)
            have HO5 : Hid (IsOwn 3 1 w1.heap.size w5 (.slice a3 (l.length + 1) c3) (l ++ [j]).length (nats (l ++ [j]))) := Lib.hid (by
              rw [List.length_append]
              have e : nats (l ++ [j]) = nats l ++ (#[.int .i64 (j : Int)] : Array Value).toList := by simp [nats]
              rw [e]; exact hown)
            have HW5 := Lib.hid (HW3.out.trans hb5)
            have HLL5 : Hid (∀ x ∈ l ++ [j], x < cn) := Lib.hid (by
              intro x hx
              rcases List.mem_append.1 hx with hx | hx
              · exact HLL.out x hx
              · rw [List.mem_singleton] at hx; rw [hx]; exact hjc)
            clear hown hb5
            go_wp2_with (refine wpList_append_run rfl _ _ 65 65 rfl _ _ rfl rfl hrun ?_)
            go_roundw
            case rel => exact ⟨i + 1, l ++ [j], a3, c3, by omega, by go_num, by rw [List.length_append]; rfl, by rw [List.length_append]; simp; omega, by rw [List.length_append] at HO5 ⊢; exact HO5, HW5, HR3, HLL5⟩
            case measure => simp [intOf]; omega
        · have g1 : (kd == 1) = false := beq_eq_false_iff_ne.2 hk1
          have HR3 : Hid (Mt.structF s (cs.drop (i + 1)) l = R) := Lib.hid (by rw [← HST2.out, if_neg (fun h => hk1 h.1)])
          clear hk1
          go_wp2_with fail
          go_roundw
          case rel => exact ⟨i + 1, l, a2, c2, by omega, by go_num, rfl, by omega, HO2, HW2, HR3, HLL⟩
          case measure => simp [intOf]; omega
    · obtain rfl : i = m := by omega
      have d1 : decide ((i : Int) < (i : Int)) = false := decide_eq_false (by omega)
      have d2 : decide (i < i) = false := decide_eq_false (by omega)
      have HE : Hid (R = some l) := Lib.hid (by
        rw [← HRL.out, List.drop_of_length_le (by rw [HM.out]; exact Nat.le_refl _)]; rfl)
      have HFIN := Lib.hid (HO.out.mono HA1.out.size)
      have HFI2 := Lib.hid (StructP.some (w := w) (w' := wr) (cn := cn) (m := i) (o := .slice a2 l.length c2) HE.out rfl HFIN.out HLL.out hli)
      clear HE
      go_wp2_with fail
      go_ret2
      exact ⟨HFI2.out, HB.out⟩
end Go.Proofs.Ythkhicpkkmhfbaa
