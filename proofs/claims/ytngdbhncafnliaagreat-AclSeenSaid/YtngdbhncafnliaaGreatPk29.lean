/-
  Some texts of one proof, one behind the other.
-/
import Derived.Deep.QuietTactic
import Derived.BigQuiet
import Derived.Test.YtngdbhncafnliaaGreatPk7
import Derived.Test.YtngdbhncafnliaaGreatPk14
set_option linter.unusedVariables false
set_option linter.unusedSimpArgs false

/-
  What the document's Unhex comes to.
-/
namespace Go.Proofs.YtngdbhncafnliaaGreat
open Go.RowKit

theorem rdigit_q (n : Int) (k : Nat) (x : Int) (w : World) (h0 : 0 ≤ n) (h : n < 16) (hk : n.toNat = k) (hx : Mt.dg k = x) (m : Nat) : Calls Tryz.prog 82 #[.int .u8 n] (w.drewN m) fun e w' => e = .returned (.int .u8 x) ∧ ∃ m', w' = w.drewN m' :=
  (rdigit_any n (w.drewN m) h0 h).mono fun e w' hh => ⟨by rw [hh.1, hk, hx], m, hh.2.symm⟩

theorem ownsRow_drewN {w : World} {base : Nat} {e : TypeId} {size : Nat} {v : Value} {n : Nat} {xs : List Value} (m : Nat) (h : w.ownsRow base e size v n xs) : (w.drewN m).ownsRow base e size v n xs := h
theorem below_drewN' {B : Nat} {a w : World} (m : Nat) (h : Below B a w) : Below B a (w.drewN m) := ⟨h.os, h.tape, h.output, h.size, h.block⟩

set_option maxHeartbeats 1600000 in
set_option maxRecDepth 100000 in
theorem runhex_any (s : ByteArray) (w : World) (hs : s.size ≤ 1000000000) :
    Calls Tryz.prog 67 #[.string s] w fun e w' => e = .returned (.tuple #[.string (Mt.str (Mt.unhex s.data.toList).1), .bool (Mt.unhex s.data.toList).2]) ∧ Below w.heap.size w w' := by
  obtain ⟨i0, hi, hz0, hz1, hz2⟩ := info_parts Tryz.info5
  have hll : s.data.toList.length = s.size := rfl
  obtain ⟨t, ht, hts⟩ : ∃ t : ByteArray, Mt.str (s.data.toList.map Mt.sm) = t ∧ t.size = s.size := ⟨_, rfl, by rw [Mt.str_size]; simp⟩
  have hgd : ∀ j (h : j < s.size) (h2 : j < t.size), t[j] = Mt.sm (s.data.toList.getD j 0) := fun j h h2 => by
    subst ht
    exact Mt.str_map_get s j h h2
  have hf := fun u => rfold_any s u (by omega)
  rw [ht] at hf
  have HF := Lib.hid hf
  have HGD := Lib.hid hgd
  have HTS := Lib.hid hts
  have HBAD := Lib.hid (fun k (hk : k < s.size / 2) (h : Mt.pv s.data.toList k = none) => Mt.unhex_bad (l := s.data.toList) (k := k) (by omega) h)
  have HGOOD := Lib.hid (fun o (he : s.size % 2 = 0) (ho : Mt.uh s.data.toList (s.size / 2) = some o) => Mt.unhex_good (l := s.data.toList) (o := o) (by omega) (by rw [hll]; exact ho))
  have HODD := Lib.hid (fun (he : s.size % 2 ≠ 0) => Mt.unhex_odd (l := s.data.toList) (by omega))
  have hts' : t.size ≤ 1000000000 := by omega
  clear hf hgd hts ht hll
  go_enter Tryz.func67, Tryz.ntmps67
  go_wp2_with fail
  refine (HF.out _).mono ?_
  rintro e w1 ⟨rfl, hb1⟩
  have H1 := Lib.hid hb1
  clear hb1 HF
  go_wp2_with fail
  go_loopw [4, 6] (fun v i wr => ∃ (k : Nat) (o : List UInt8), 2 * k ≤ s.size ∧ i = .int .i64 (2 * (k : Int)) ∧ wr.ownsRow w.heap.size 5 1 v k (Mt.cs o) ∧ Hid (Mt.uh s.data.toList k = some o) ∧ Hid (Below w.heap.size w wr))
    (fun _ i _ => 2 * s.size - (intOf i).toNat)
  case atStart => exact ⟨0, [], Nat.zero_le _, rfl, World.ownsRow_nil _ _ _ _, Lib.hid rfl, H1⟩
  case round =>
    obtain ⟨k, o, hk, rfl, hown, HO, HB⟩ := hrel
    by_cases hlt : 2 * k + 1 < s.size
    · have l0 : 2 * (k : Int) < (t.size : Int) := by have := HTS.out; omega
      have l1 : 2 * (k : Int) + 1 < (t.size : Int) := by have := HTS.out; omega
      have l0' : 2 * k < t.size := by omega
      have l1' : 2 * k + 1 < t.size := by omega
      obtain ⟨c, hc⟩ : ∃ c, s.data.toList.getD (2 * k) 0 = c := ⟨_, rfl⟩
      obtain ⟨d, hd⟩ : ∃ d, s.data.toList.getD (2 * k + 1) 0 = d := ⟨_, rfl⟩
      have HPV := Lib.hid (fun n (hn : n < 256) => Mt.pv_iff (l := s.data.toList) (k := k) (n := n) hc hd hn)
      have htc : t[2 * k] = Mt.sm c := by rw [HGD.out _ (by omega) l0', hc]
      have htd : t[2 * k + 1] = Mt.sm d := by rw [HGD.out _ hlt l1', hd]
      obtain ⟨x, hx⟩ : ∃ x : UInt8, Mt.sm c = x := ⟨_, rfl⟩
      obtain ⟨y, hy⟩ : ∃ y : UInt8, Mt.sm d = y := ⟨_, rfl⟩
      rw [hx] at htc HPV
      rw [hy] at htd HPV
      have HTC := Lib.hid htc
      have HTD := Lib.hid htd
      clear hc hd hx hy
      obtain ⟨wo, hwo⟩ : ∃ wo : World, wo = wr := ⟨_, rfl⟩
      subst hwo
      have hx256 : (x.toNat : Int) < 256 := by have := x.toNat_lt; omega
      have hy256 : (y.toNat : Int) < 256 := by have := y.toNat_lt; omega
      clear htc htd
      go_wp2_with fail
      go_loopw [4, 7, 8] (fun v f n wi => ∃ (m : Nat) (b : Bool) (o' : List UInt8), m ≤ 256 ∧ n = .int .i64 m ∧ f = .bool b ∧ wi.ownsRow w.heap.size 5 1 v o'.length (Mt.cs o') ∧ Hid (b = false → o' = o ∧ ∀ m', m' < m → Mt.pv s.data.toList k ≠ some m') ∧ Hid (b = true → Mt.uh s.data.toList (k + 1) = some o') ∧ Hid (Below w.heap.size w wi))
        (fun _ _ n _ => 256 - (intOf n).toNat)
      case atStart => exact ⟨0, false, o, by omega, rfl, rfl, by rw [Mt.uh_length HO.out]; exact hown, Lib.hid (fun _ => ⟨rfl, fun m' h => by omega⟩), Lib.hid (fun h => by cases h), HB⟩
      case round =>
        obtain ⟨m, b, o', hm, rfl, rfl, hown', HNO, HYES, HB'⟩ := hrel
        cases b with
        | true =>
          have HY := Lib.hid (HYES.out rfl)
          have hl := Mt.uh_length HY.out
          rw [hl] at hown'
          clear HYES HNO hl
          by_cases hmm : m < 256
          all_goals
            go_wp2_with fail
            go_roundw
            case rel => exact ⟨k + 1, o', by omega, by go_num, hown', HY, HB'⟩
            case measure => simp [intOf]; omega
        | false =>
          by_cases hm' : m < 256
          · have hrd := HTC.out
            have hrd2 := HTD.out
            by_cases h1 : Mt.dg (m / 16) = (x.toNat : Int)
            · by_cases h2 : Mt.dg (m % 16) = (y.toNat : Int)
              · have D1 := Lib.hid (fun u => rdigit_q ((m : Int) / 16) (m / 16) _ u (by omega) (by omega) (by omega) h1)
                have D2 := Lib.hid (fun u => rdigit_q ((m : Int) % 16) (m % 16) _ u (by omega) (by omega) (by omega) h2)
                have HM := Lib.hid (Mt.uh_some HO.out ((HPV.out m hm').2 ⟨h1, h2⟩))
                have HOO := Lib.hid (HNO.out rfl).1
                have hol : o'.length ≤ 1000000000 := by rw [HOO.out, Mt.uh_length HO.out]; omega
                have HMM := Lib.hid (show ((UInt8.ofNat m).toNat : Int) = (m : Int) by simp [UInt8.toNat_ofNat']; omega)
                clear h1 h2
                have q1 : IntKind.i64.wrap ((m : Int) / 16) = (m : Int) / 16 := IntWalk.i64_in _ (by omega)
                have q2 : IntKind.u8.wrap ((m : Int) / 16) = (m : Int) / 16 := wraps_u8 _ (by omega) (by omega)
                have q3 : (m : Int).tmod 16 = (m : Int) % 16 := Int.tmod_eq_emod_of_nonneg (by omega)
                have q4 : IntKind.i64.wrap ((m : Int) % 16) = (m : Int) % 16 := IntWalk.i64_in _ (by omega)
                have q5 : IntKind.u8.wrap ((m : Int) % 16) = (m : Int) % 16 := wraps_u8 _ (by omega) (by omega)
                have q6 : IntKind.i64.wrap (2 * (k : Int) + 1) = 2 * (k : Int) + 1 := IntWalk.i64_in _ (by omega)
                have z0 : (0 : Int) ≤ 2 * (k : Int) := by omega
                have z1 : (0 : Int) ≤ 2 * (k : Int) + 1 := by omega
                have t0 : (2 * (k : Int)).toNat = 2 * k := by omega
                have t1 : (2 * (k : Int) + 1).toNat = 2 * k + 1 := by omega
                go_wp2_with fail
                go_quiet ((go_at_call 82; first | (with_reducible exact D1.out _ _) | (with_reducible exact D2.out _ _)))
                clear q1 q2 q3 q4 q5 q6 t0 t1
                have hownq := ownsRow_drewN nq hown'
                have HBq := Lib.hid (below_drewN' nq HB'.out)
                clear hown' HB'
                generalize wr.drewN nq = wq at hownq HBq ⊢
                have hszq := HBq.out.size
                have hmm : (m : Int) % 256 = (m : Int) := by omega
                go_wp2_with (at_builtin; refine wpList_append_own _ rfl _ _ 114 rfl w.heap.size 5 i0 (.int .u8 0) 1 1 Tryz.underlying114 hi hz0 hz1 hz2 rfl (by decide) _ _ _ rfl (hownq.alloc _) ⟨wq.heap.size, 0, none⟩ 1 1 [.int .u8 (m : Int)] rfl rfl (cell_one_new _ _ _) (by simp [Value.oneCell']) (by unfold maxLen; omega) (by omega) (by simp; omega) ?_; intro v1 w2 hown1 hgr1 _)
                have HB1 : Hid (Below w.heap.size w w2) := (HBq.out.alloc hszq _).grown hgr1 (by simp; omega) (fun j hj => (hownq.lt j hj).1)
                go_roundw
                case rel =>
                  refine ⟨m + 1, true, o' ++ [UInt8.ofNat m], by omega, by go_num, rfl, ?_, Lib.hid (fun h => by cases h), Lib.hid (fun _ => by rw [HOO.out]; exact HM.out), HB1⟩
                  rw [Mt.cs_append, List.length_append]
                  have e : Mt.cs [UInt8.ofNat m] = [.int .u8 (m : Int)] := by rw [← HMM.out]; rfl
                  rw [e]
                  exact hown1
                case measure => simp [intOf]; omega
              · have D1 := Lib.hid (fun u => rdigit_q ((m : Int) / 16) (m / 16) _ u (by omega) (by omega) (by omega) h1)
                have D2 := Lib.hid (fun u => rdigit_q ((m : Int) % 16) (m % 16) (Mt.dg (m % 16)) u (by omega) (by omega) (by omega) rfl)
                have HN0 := Lib.hid (HNO.out rfl)
                have HMN := Lib.hid (fun h => h2 ((HPV.out m hm').1 h).2)
                have hne : (Mt.dg (m % 16) == (y.toNat : Int)) = false := by simpa using h2
                clear h1 h2
                generalize Mt.dg (m % 16) = z at D2 hne
                have q1 : IntKind.i64.wrap ((m : Int) / 16) = (m : Int) / 16 := IntWalk.i64_in _ (by omega)
                have q2 : IntKind.u8.wrap ((m : Int) / 16) = (m : Int) / 16 := wraps_u8 _ (by omega) (by omega)
                have q3 : (m : Int).tmod 16 = (m : Int) % 16 := Int.tmod_eq_emod_of_nonneg (by omega)
                have q4 : IntKind.i64.wrap ((m : Int) % 16) = (m : Int) % 16 := IntWalk.i64_in _ (by omega)
                have q5 : IntKind.u8.wrap ((m : Int) % 16) = (m : Int) % 16 := wraps_u8 _ (by omega) (by omega)
                have q6 : IntKind.i64.wrap (2 * (k : Int) + 1) = 2 * (k : Int) + 1 := IntWalk.i64_in _ (by omega)
                have z0 : (0 : Int) ≤ 2 * (k : Int) := by omega
                have z1 : (0 : Int) ≤ 2 * (k : Int) + 1 := by omega
                have t0 : (2 * (k : Int)).toNat = 2 * k := by omega
                have t1 : (2 * (k : Int) + 1).toNat = 2 * k + 1 := by omega
                go_wp2_with fail
                go_quiet ((go_at_call 82; first | (with_reducible exact D1.out _ _) | (with_reducible exact D2.out _ _)))
                clear q1 q2 q3 q4 q5 q6 t0 t1
                have hownq := ownsRow_drewN nq hown'
                have HBq := Lib.hid (below_drewN' nq HB'.out)
                clear hown' HB'
                generalize wr.drewN nq = wq at hownq HBq ⊢
                go_wp2_with fail
                go_roundw
                case rel => exact ⟨m + 1, false, o', by omega, by go_num, rfl, hownq, Lib.hid (fun _ => ⟨HN0.out.1, fun m' hm2 => by
                  rcases Nat.lt_or_ge m' m with h3 | h3
                  · exact HN0.out.2 m' h3
                  · obtain rfl : m' = m := by omega
                    exact HMN.out⟩), Lib.hid (fun h => by cases h), HBq⟩
                case measure => simp [intOf]; omega
            · have D1 := Lib.hid (fun u => rdigit_q ((m : Int) / 16) (m / 16) (Mt.dg (m / 16)) u (by omega) (by omega) (by omega) rfl)
              have D2 := D1
              have HN0 := Lib.hid (HNO.out rfl)
              have HMN := Lib.hid (fun h => h1 ((HPV.out m hm').1 h).1)
              have hne : (Mt.dg (m / 16) == (x.toNat : Int)) = false := by simpa using h1
              clear h1
              generalize Mt.dg (m / 16) = z at D1 D2 hne
              have q1 : IntKind.i64.wrap ((m : Int) / 16) = (m : Int) / 16 := IntWalk.i64_in _ (by omega)
              have q2 : IntKind.u8.wrap ((m : Int) / 16) = (m : Int) / 16 := wraps_u8 _ (by omega) (by omega)
              have q3 : (m : Int).tmod 16 = (m : Int) % 16 := Int.tmod_eq_emod_of_nonneg (by omega)
              have q4 : IntKind.i64.wrap ((m : Int) % 16) = (m : Int) % 16 := IntWalk.i64_in _ (by omega)
              have q5 : IntKind.u8.wrap ((m : Int) % 16) = (m : Int) % 16 := wraps_u8 _ (by omega) (by omega)
              have q6 : IntKind.i64.wrap (2 * (k : Int) + 1) = 2 * (k : Int) + 1 := IntWalk.i64_in _ (by omega)
              have z0 : (0 : Int) ≤ 2 * (k : Int) := by omega
              have z1 : (0 : Int) ≤ 2 * (k : Int) + 1 := by omega
              have t0 : (2 * (k : Int)).toNat = 2 * k := by omega
              have t1 : (2 * (k : Int) + 1).toNat = 2 * k + 1 := by omega
              go_wp2_with fail
              go_quiet ((go_at_call 82; first | (with_reducible exact D1.out _ _) | (with_reducible exact D2.out _ _)))
              clear q1 q2 q3 q4 q5 q6 t0 t1
              have hownq := ownsRow_drewN nq hown'
              have HBq := Lib.hid (below_drewN' nq HB'.out)
              clear hown' HB'
              generalize wr.drewN nq = wq at hownq HBq ⊢
              go_wp2_with fail
              go_roundw
              case rel => exact ⟨m + 1, false, o', by omega, by go_num, rfl, hownq, Lib.hid (fun _ => ⟨HN0.out.1, fun m' hm2 => by
                rcases Nat.lt_or_ge m' m with h3 | h3
                · exact HN0.out.2 m' h3
                · obtain rfl : m' = m := by omega
                  exact HMN.out⟩), Lib.hid (fun h => by cases h), HBq⟩
              case measure => simp [intOf]; omega
          · have HN := Lib.hid (Mt.pv_all (l := s.data.toList) (k := k) (fun n hn => (HNO.out rfl).2 n (by omega)))
            have HU := Lib.hid (HBAD.out k (by omega) HN.out)
            go_wp2_with fail
            go_ret2
            exact ⟨ret_pair HU.out, HB'.out⟩
    · by_cases hpar : s.size % 2 = 0
      · have hk2 : s.size / 2 = k := by omega
        have HU := Lib.hid (HGOOD.out o hpar (by rw [hk2]; exact HO.out))
        have hcv := conv_ownb o w.heap.size _ _ wr hown
        have hp : ((s.size : Int) % 2 == 1) = false := by simp; omega
        have l1 : ¬ 2 * (k : Int) + 1 < (t.size : Int) := by have := HTS.out; omega
        clear hk2 hpar
        go_wp2_with fail
        go_ret2
        exact ⟨ret_pair (by rw [HU.out]; rfl), HB.out⟩
      · have HU := Lib.hid (HODD.out hpar)
        have hp : ((s.size : Int) % 2 == 1) = true := by simp; omega
        have l1 : ¬ 2 * (k : Int) + 1 < (t.size : Int) := by have := HTS.out; omega
        clear hpar
        go_wp2_with fail
        go_ret2
        exact ⟨ret_pair HU.out, HB.out⟩

end Go.Proofs.YtngdbhncafnliaaGreat
