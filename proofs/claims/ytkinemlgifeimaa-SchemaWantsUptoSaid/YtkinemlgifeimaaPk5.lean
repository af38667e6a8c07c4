/-
  Some texts of one proof, one behind the other.
-/
import Derived.Test.YtkinemlgifeimaaPk4
set_option linter.unusedVariables false
set_option linter.unusedSimpArgs false

/-
  Chains of classes.
-/
namespace Go.Proofs.Ytkinemlgifeimaa
open Go.RowKit

theorem Mt.clI_get {s : Mt.Sc} {i : Nat} (hi : i < s.classes.length) : Mt.clI s (i : Int) = s.classes[i] := by
  unfold Mt.clI
  rw [Int.toNat_natCast, List.getD_eq_getElem?_getD, List.getElem?_eq_getElem hi]; rfl
theorem Mt.tyI_get {s : Mt.Sc} {i : Nat} (hi : i < s.types.length) : Mt.tyI s (i : Int) = s.types[i] := by
  unfold Mt.tyI
  rw [Int.toNat_natCast, List.getD_eq_getElem?_getD, List.getElem?_eq_getElem hi]; rfl
theorem Mt.supAt_range {s : Mt.Sc} (i : Nat) : -1 ≤ Mt.supAt s i ∧ Mt.supAt s i < (i : Int) := by
  unfold Mt.supAt
  have := (Mt.atL_range (fun c : Mt.Cl => Mt.sameN c.name (Mt.clI s i).sup) s.classes).1
  have h2 : Mt.clAt s (Mt.clI s i).sup = Mt.atL (fun c : Mt.Cl => Mt.sameN c.name (Mt.clI s i).sup) s.classes := rfl
  split <;> omega
set_option maxRecDepth 100000 in
theorem supAt_any {tv cv : Value} {s : Mt.Sc} (i : Nat) (hi : i < s.classes.length) {w : World} (h : IsSc w tv cv s) :
    Calls Try.prog 58 #[.agg #[tv, cv], .int .i64 (i : Int)] w fun e w' => e = .returned (.int .i64 (Mt.supAt s i)) ∧ Below w.heap.size w w' := by
  have HK := Lib.hid (fun (u : World) (hb : Below w.heap.size w u) => classAt_any (s.classes[i]).sup (by have := (h.cnm _ (List.getElem_mem hi)).2.1; omega) (h.below hb))
  have hI := h.clen
  have HA := Lib.hid ((Below.refl w.heap.size w).alloc (Nat.le_refl _) (.cells #[tv, cv] 59))
  obtain ⟨a, cap, hv, hcap, hcell⟩ := h.classes
  obtain ⟨b, off, m1, y1, e0, hbl, h0, h1, h2, h3, h4, -, -⟩ := hcell.out i hi
  have hsup : Mt.supAt s i = if Mt.clAt s (s.classes[i]).sup ≥ i then -1 else Mt.clAt s (s.classes[i]).sup := by unfold Mt.supAt; rw [Mt.clI_get hi]
  rw [hsup]
  subst e0
  subst hv
  obtain ⟨N, hN⟩ : ∃ N, Mt.str (s.classes[i]).sup = N := ⟨_, rfl⟩
  rw [hN] at h1 HK
  obtain ⟨R, hR⟩ : ∃ R, Mt.clAt s (s.classes[i]).sup = R := ⟨_, rfl⟩
  rw [hR] at HK ⊢
  obtain ⟨X, hX⟩ : ∃ X, (if R ≥ (i : Int) then (-1 : Int) else R) = X := ⟨_, rfl⟩
  rw [hX]
  have HX := Lib.hid hX
  obtain ⟨n, hn⟩ : ∃ n, s.classes.length = n := ⟨_, rfl⟩
  rw [hn] at HK hcap hI HA ⊢
  have hlt : i < n := by omega
  have x1 := (HA.out.cell (p := ⟨b, off + i * 5 + 1, none⟩) hbl).trans h1
  have hrow := heap_alloc_new w (.cells #[tv, .slice (some ⟨b, off, none⟩) n cap] 59)
  have p0 : (w.alloc (.cells #[tv, .slice (some ⟨b, off, none⟩) n cap] 59)).cell? ⟨w.heap.size, 0, none⟩ = some tv := by rw [cell_of_row _ _ _ _ _ _ hrow]; rfl
  have p1 : (w.alloc (.cells #[tv, .slice (some ⟨b, off, none⟩) n cap] 59)).cell? ⟨w.heap.size, 1, none⟩ = some (.slice (some ⟨b, off, none⟩) n cap) := by rw [cell_of_row _ _ _ _ _ _ hrow]; rfl
  have i0 : (0 : Int) ≤ (i : Int) := by omega
  have i1 : (i : Int) < (n : Int) := by omega
  clear hcell h0 h1 h2 h3 h4 hrow hsup hN hR h hi hbl hX
  go_enter Try.func58, Try.ntmps58
  go_upto_region 1 with fail
  have HAd := Lib.hid HA.out.drew
  by_cases hc : R ≥ (i : Int)
  · have HXE : Hid (X = -1) := Lib.hid (by rw [← HX.out, if_pos hc])
    have d1 : decide ((i : Int) ≤ R) = true := decide_eq_true hc
    go_region_law (first | (go_simp; go_at_call 35; refine (HK.out _ HAd.out).mono ?_; rintro e w2 ⟨rfl, hb⟩; have HB2 := Lib.hid (HAd.out.trans (hb.mono HAd.out.size)); clear hb))
    all_goals
      go_wp2_with fail
      all_goals (go_ret; exact ⟨Mt.ret_int HXE.out.symm, HB2.out⟩)
  · have HXE : Hid (X = R) := Lib.hid (by rw [← HX.out, if_neg hc])
    have d1 : decide ((i : Int) ≤ R) = false := decide_eq_false hc
    go_region_law (first | (go_simp; go_at_call 35; refine (HK.out _ HAd.out).mono ?_; rintro e w2 ⟨rfl, hb⟩; have HB2 := Lib.hid (HAd.out.trans (hb.mono HAd.out.size)); clear hb))
    all_goals
      go_wp2_with fail
      all_goals (go_ret; exact ⟨Mt.ret_int HXE.out.symm, HB2.out⟩)
/-- Places. -/
def nats (l : List Nat) : List Value := l.map fun (i : Nat) => Value.int .i64 (i : Int)
theorem Try.infoInt13 : (Try.prog.info? 3).map (fun i => (i.zero, i.size, i.bytes)) = some (some (.int .i64 0), 1, 8) := by kernel_rfl
theorem Mt.chainF_neg (s : Mt.Sc) (n : Nat) {i : Int} (h : i < 0) : Mt.chainF s n i = [] := by
  cases n with
  | zero => rfl
  | succ n => unfold Mt.chainF; rw [if_pos h]
theorem Mt.chainF_pos (s : Mt.Sc) (n : Nat) {i : Int} (h : 0 ≤ i) : Mt.chainF s (n + 1) i = i.toNat :: Mt.chainF s n (Mt.supAt s i.toNat) := by
  conv => lhs; unfold Mt.chainF
  rw [if_neg (by omega)]
theorem Mt.chainF_lt (s : Mt.Sc) : ∀ (n : Nat) (i : Int), i < s.classes.length → ∀ j ∈ Mt.chainF s n i, j < s.classes.length
  | 0, _, _, j, hj => by simp [Mt.chainF] at hj
  | n + 1, i, hi, j, hj => by
    unfold Mt.chainF at hj
    split at hj
    · cases hj
    · rcases List.mem_cons.1 hj with rfl | hj
      · omega
      · exact Mt.chainF_lt s n _ (by have := (Mt.supAt_range (s := s) i.toNat).2; omega) j hj
/-- Enough is enough: a chain falls. -/
theorem Mt.chainF_more (s : Mt.Sc) : ∀ (n m : Nat) (i : Int), i < n → i < m → Mt.chainF s n i = Mt.chainF s m i
  | 0, m, i, h, _ => by rw [Mt.chainF_neg s 0 (by omega), Mt.chainF_neg s m (by omega)]
  | n + 1, 0, i, _, h => by rw [Mt.chainF_neg s _ (by omega), Mt.chainF_neg s 0 (by omega)]
  | n + 1, m + 1, i, h, h2 => by
    by_cases h0 : i < 0
    · rw [Mt.chainF_neg s _ h0, Mt.chainF_neg s _ h0]
    · have h0 : 0 ≤ i := by omega
      rw [Mt.chainF_pos s n h0, Mt.chainF_pos s m h0, Mt.chainF_more s n m _ (by have := (Mt.supAt_range (s := s) i.toNat).2; omega) (by have := (Mt.supAt_range (s := s) i.toNat).2; omega)]
theorem Mt.clAt_range (s : Mt.Sc) (n : List UInt8) : -1 ≤ Mt.clAt s n ∧ Mt.clAt s n < s.classes.length := Mt.atL_range (fun c : Mt.Cl => Mt.sameN c.name n) s.classes
theorem Mt.tyAt_range (s : Mt.Sc) (n : List UInt8) : -1 ≤ Mt.tyAt s n ∧ Mt.tyAt s n < s.types.length := Mt.atL_range (fun c : Mt.Ty => Mt.sameN c.name n) s.types
set_option maxRecDepth 100000 in
set_option maxHeartbeats 1000000 in
theorem chain_any {tv cv : Value} {s : Mt.Sc} (n : List UInt8) (hn : n.length ≤ 140737488351232) {w : World} (h : IsSc w tv cv s) :
    Calls Try.prog 38 #[.agg #[tv, cv], .string (Mt.str n)] w fun e w' => ∃ v, e = .returned v ∧ IsOwn 3 1 w.heap.size w' v (Mt.chain s n).length (nats (Mt.chain s n)) ∧ Below w.heap.size w w' := by
  have HK := Lib.hid (fun (u : World) (hb : Below w.heap.size w u) => classAt_any n hn (h.below hb))
  have HS := Lib.hid (fun (i : Nat) (hi : i < s.classes.length) (u : World) (hb : Below w.heap.size w u) => supAt_any i hi (h.below hb))
  have hlen := h.clen
  obtain ⟨i0, hi, hz0, hz1, hz2⟩ := info_parts Try.infoInt13
  have HI := Lib.hid (And.intro hi (And.intro hz0 (And.intro hz1 hz2)))
  have HA := Lib.hid ((Below.refl w.heap.size w).alloc (Nat.le_refl _) (.cells #[tv, cv] 59))
  have HP : Hid (∀ u, Below (w.heap.size + 1) (w.alloc (.cells #[tv, cv] 59)) u → u.cell? ⟨w.heap.size, 0, none⟩ = some tv ∧ u.cell? ⟨w.heap.size, 1, none⟩ = some cv) := Lib.hid (fun u hu => by
    have hrow := (hu.block w.heap.size (by omega)).trans (heap_alloc_new w (.cells #[tv, cv] 59))
    exact ⟨by rw [cell_of_row _ _ _ _ _ _ hrow]; rfl, by rw [cell_of_row _ _ _ _ _ _ hrow]; rfl⟩)
  have hr := Mt.clAt_range s n
  have hch : Mt.chain s n = Mt.chainF s s.classes.length (Mt.clAt s n) := rfl
  obtain ⟨k, hk⟩ : ∃ k, Mt.clAt s n = k := ⟨_, rfl⟩
  rw [hk] at HK hr hch
  obtain ⟨R, hR⟩ : ∃ R, Mt.chain s n = R := ⟨_, rfl⟩
  rw [hR] at hch ⊢
  have HR0 := Lib.hid hch
  obtain ⟨c, hc⟩ : ∃ c, s.classes.length = c := ⟨_, rfl⟩
  rw [hc] at HS hlen hr HR0
  generalize Mt.str n = N at *
  obtain ⟨wa, hwa⟩ : ∃ wa, w.alloc (.cells #[tv, cv] 59) = wa := ⟨_, rfl⟩
  rw [hwa] at HA HP
  have HSZ : Hid (wa.heap.size = w.heap.size + 1) := Lib.hid (by rw [← hwa]; simp)
  obtain ⟨p0, p1⟩ := HP.out wa (Below.refl _ _)
  clear h hn hk hR hch hc hi hz0 hz1 hz2
  go_enter Try.func38, Try.ntmps38
  go_wp2_with fail
  refine (HK.out _ HA.out).mono ?_
  rintro e w2 ⟨rfl, hb⟩
  have HBa := Lib.hid (show Below (w.heap.size + 1) wa w2 from hb.mono (by rw [HSZ.out]; exact Nat.le_refl _))
  have HB2 := Lib.hid (HA.out.trans (hb.mono HA.out.size))
  clear hb p0 p1
  go_wp2_with fail
  go_loopw [6, 5] (fun iv ov wr => ∃ (k : Int) (l : List Nat) (a2 : Option Addr) (c2 : Nat), iv = .int .i64 k ∧ ov = .slice a2 l.length c2 ∧ -1 ≤ k ∧ k < c ∧ (l.length : Int) + k + 1 ≤ c ∧ Hid (IsOwn 3 1 (w.heap.size + 1) wr (.slice a2 l.length c2) l.length (nats l)) ∧ Hid (R = l ++ Mt.chainF s c k) ∧ Hid (Below w.heap.size w wr) ∧ Hid (Below (w.heap.size + 1) wa wr)) (fun iv _ _ => (intOf iv + 1).toNat)
  case atStart => exact ⟨k, [], none, 0, rfl, rfl, hr.1, hr.2, by simp; omega, Lib.hid (IsOwn.nil _ _ _ _), Lib.hid HR0.out, HB2, HBa⟩
  case round =>
    obtain ⟨k, l, a2, c2, rfl, rfl, hk1, hk2, hk3, HO, HR, HB, HBw⟩ := hrel
    obtain ⟨p0, p1⟩ := HP.out wr HBw.out
    by_cases h0 : 0 ≤ k
    · obtain ⟨i, rfl⟩ := Int.eq_ofNat_of_zero_le h0
      have hic : i < c := by omega
      obtain ⟨c', hcc⟩ : ∃ c', c = c' + 1 := ⟨c - 1, by omega⟩
      have hsr := Mt.supAt_range (s := s) i
      have HR2 : Hid (R = (l ++ [i]) ++ Mt.chainF s c (Mt.supAt s i)) := Lib.hid (by
        rw [HR.out]
        have e1 : Mt.chainF s c (i : Int) = i :: Mt.chainF s c' (Mt.supAt s i) := by rw [hcc, Mt.chainF_pos s c' (by omega)]; rfl
        rw [e1, Mt.chainF_more s c' c (Mt.supAt s i) (by omega) (by omega), List.append_assoc]; rfl)
      obtain ⟨a3, c3, w5, hrun, hown, hb5⟩ := own_push (T := 65) (tx := 65) Try.underlying65 Try.underlying65 HI.out.1 HI.out.2.1 HI.out.2.2.1 HI.out.2.2.2 rfl HO.out (by have := HBw.out.size; rw [HSZ.out] at this; exact this) (by intro u hu; simp only [nats, List.mem_map] at hu; obtain ⟨x, _, rfl⟩ := hu; rfl) #[.int .i64 (i : Int)] rfl (by simp [Value.oneCell']) (by omega) (by omega)
      have HO5 : Hid (IsOwn 3 1 (w.heap.size + 1) w5 (.slice a3 (l.length + 1) c3) (l ++ [i]).length (nats (l ++ [i]))) := Lib.hid (by
        rw [List.length_append]
        have e : nats (l ++ [i]) = nats l ++ (#[.int .i64 (i : Int)] : Array Value).toList := by simp [nats]
        rw [e]; exact hown)
      have HB5 := Lib.hid (HB.out.trans (hb5.mono (Nat.le_succ _)))
      have HBw5 := Lib.hid (HBw.out.trans hb5)
      have HSI := Lib.hid (HS.out i (by omega) w5 HB5.out)
      obtain ⟨q0, q1⟩ := HP.out w5 HBw5.out
      have d1 : decide ((0 : Int) ≤ (i : Int)) = true := decide_eq_true h0
      clear hown hb5 hcc h0 HR
      go_wp2_with (refine wpList_append_run rfl _ _ 65 65 rfl _ _ rfl rfl hrun ?_)
      refine (HSI.out).mono ?_
      rintro e w6 ⟨rfl, hb⟩
      have HB6 := Lib.hid (HB5.out.trans (hb.mono HB5.out.size))
      have HBw6 := Lib.hid (HBw5.out.trans (hb.mono (by have := HBw5.out.size; rw [HSZ.out] at this; exact this)))
      have HO6 := Lib.hid (HO5.out.below hb)
      clear hb
      go_wp2_with fail
      go_roundw
      case rel => exact ⟨Mt.supAt s i, l ++ [i], a3, c3, rfl, by rw [List.length_append]; rfl, hsr.1, by omega, by rw [List.length_append]; simp; omega, by rw [List.length_append] at HO6 ⊢; exact HO6, HR2, HB6, HBw6⟩
      case measure => simp [intOf]; omega
    · have d1 : decide ((0 : Int) ≤ k) = false := decide_eq_false h0
      have HRE : Hid (R = l) := Lib.hid (by rw [HR.out, Mt.chainF_neg s c (by omega), List.append_nil])
      have HFIN : Hid (IsOwn 3 1 w.heap.size wr (.slice a2 l.length c2) R.length (nats R)) := Lib.hid (by rw [HRE.out]; exact HO.out.mono (Nat.le_succ _))
      go_wp2_with fail
      go_ret
      exact ⟨_, rfl, HFIN.out, HB.out⟩
end Go.Proofs.Ytkinemlgifeimaa
