/-
  Some texts of one proof, one behind the other.
-/
import Derived.Test.YtngdbhncafnliaaGreatPk2
import Derived.Test.YtngdbhncafnliaaGreatPk30
set_option linter.unusedVariables false
set_option linter.unusedSimpArgs false

/-
  What the document's Parse comes to.
-/
namespace Go.Proofs.YtngdbhncafnliaaGreat
open Go.RowKit

theorem Mt.valF_tail : ∀ {k : Nat} {v l a b : List UInt8}, Mt.valF k v l = some (a, b) → Mt.endsL b = true ∧ ∃ n, n ≤ l.length ∧ b = l.drop n
  | 0, v, l, a, b, h => by simp [Mt.valF] at h
  | k + 1, v, l, a, b, h => by
    simp only [Mt.valF] at h
    split at h
    · rename_i h1; cases h; exact ⟨h1, 0, Nat.zero_le _, rfl⟩
    · cases hb : Mt.byteL l with
      | none => rw [hb] at h; cases h
      | some p =>
        obtain ⟨c, n⟩ := p
        have hn := Mt.byte_size hb
        rw [hb] at h
        simp only at h
        split at h
        · cases h
        · obtain ⟨h2, n2, h3, h4⟩ := Mt.valF_tail h
          refine ⟨h2, n + n2, ?_, ?_⟩
          · rw [List.length_drop] at h3; omega
          · rw [h4, List.drop_drop]
theorem Mt.cut_none : ∀ l : List UInt8, (∀ c ∈ l, c ≠ 61) → Mt.cutE l = none
  | [], _ => rfl
  | c :: r, h => by simp [Mt.cutE, h c (by simp), Mt.cut_none r (fun d hd => h d (List.mem_cons_of_mem _ hd))]
theorem Mt.cut_far (s : ByteArray) (p : Nat) (h : ∀ j (hj : j < s.size), p ≤ j → s[j].toNat ≠ 61) : Mt.cutE (s.data.toList.drop p) = none := by
  refine Mt.cut_none _ fun c hc => ?_
  obtain ⟨j, hj, rfl⟩ := List.mem_iff_getElem.1 hc
  rw [List.getElem_drop]
  have hj2 : p + j < s.size := by rw [List.length_drop] at hj; have : s.data.toList.length = s.size := rfl; omega
  have := h (p + j) hj2 (by omega)
  intro e
  exact this (by show (s.data.toList[p + j]).toNat = 61; rw [e]; rfl)
theorem Mt.cut_at (s : ByteArray) (p e : Nat) (hpe : p ≤ e) (he : e < s.size) (h61 : s[e].toNat = 61) (h : ∀ j (hj : j < s.size), p ≤ j → j < e → s[j].toNat ≠ 61) :
    Mt.cutE (s.data.toList.drop p) = some ((s.data.toList.drop p).take (e - p), s.data.toList.drop (e + 1)) ∧ s.extract p e = Mt.str ((s.data.toList.drop p).take (e - p)) := by
  have hl : s.data.toList.length = s.size := rfl
  have e1 : s.data.toList.drop p = (s.data.toList.drop p).take (e - p) ++ 61 :: s.data.toList.drop (e + 1) := by
    have h2 : (s.data.toList.drop p).drop (e - p) = 61 :: s.data.toList.drop (e + 1) := by
      rw [List.drop_drop, show p + (e - p) = e by omega, Mt.drop_cons s e he]
      congr 1
      exact Mt.u8_ext (by show s[e].toNat = 61; exact h61)
    rw [← h2, List.take_append_drop]
  constructor
  · conv => lhs; rw [e1]
    refine Mt.cut_typ _ _ fun c hc => ?_
    obtain ⟨j, hj, rfl⟩ := List.mem_iff_getElem.1 hc
    rw [List.length_take, List.length_drop] at hj
    rw [List.getElem_take, List.getElem_drop]
    have := h (p + j) (by omega) (by omega) (by omega)
    intro e2
    exact this (by show (s.data.toList[p + j]).toNat = 61; rw [e2]; rfl)
  · apply ByteArray.ext
    rw [ByteArray.data_extract]
    apply Array.ext'
    simp [Mt.str, Array.toList_extract, List.extract]

/-- What the document's Parse answers. -/
def RParsP (w : World) (res : Except Nat (List (List Mt.Av))) (x : Ending) (w' : World) : Prop :=
  Below w.heap.size w w' ∧ match res with
    | .error e => x = .returned (.tuple #[.slice none 0 0, .int .i64 e])
    | .ok d => ∃ v, x = .returned (.tuple #[v, .int .i64 0]) ∧ IsDn w' v d

set_option maxRecDepth 100000 in
set_option maxHeartbeats 8000000 in
theorem rparse9_any (s : ByteArray) (w : World) : Calls Tryz.prog 27 #[.string s] w (RParsP w (Mt.dnL s.data.toList)) := by
  obtain ⟨i0, hi, hz0, hz1, hz2⟩ := info_parts Tryz.infoAva
  have HI := Lib.hid (And.intro hi (And.intro hz0 (And.intro hz1 hz2)))
  clear hi hz0 hz1 hz2
  have hll : s.data.toList.length = s.size := rfl
  have HLL := Lib.hid hll
  by_cases hbig : 4096 < s.size
  · have hR : Mt.dnL s.data.toList = .error 5 := by unfold Mt.dnL; rw [if_pos (by omega)]
    rw [hR]
    have hbi : decide ((4096 : Int) < s.size) = true := decide_eq_true (by omega)
    clear hR hll
    go_enter Tryz.func27, Tryz.ntmps27
    go_wp2_with fail
    go_ret2
    exact ⟨Below.refl _ _, rfl⟩
  · have hbi : decide ((4096 : Int) < s.size) = false := decide_eq_false (by omega)
    have hsz : s.size ≤ 4096 := by omega
    rcases Nat.eq_zero_or_pos s.size with h0 | h0
    · have hs0 : s = ⟨#[]⟩ := by
        apply ByteArray.ext
        exact Array.eq_empty_of_size_eq_zero h0
      subst hs0
      have hR : Mt.dnL (⟨#[]⟩ : ByteArray).data.toList = .ok [] := by simp [Mt.dnL]
      rw [hR]
      clear hbi hR hll HLL hbig hsz
      go_enter Tryz.func27, Tryz.ntmps27
      go_wp2_with fail
      go_loopw [4, 5] (fun v i wr => v = .slice none 0 0 ∧ wr = w) (fun _ _ _ => 0)
      case atStart => exact ⟨rfl, rfl⟩
      case round =>
        obtain ⟨rfl, rfl⟩ := hrel
        go_wp2_with fail
        go_ret2
        exact ⟨Below.refl _ _, _, rfl, none, 0, rfl, by simp, by simp, .inl rfl⟩
    · obtain ⟨R, hR⟩ : ∃ R, Mt.dnL s.data.toList = R := ⟨_, rfl⟩
      rw [hR]
      have HR0 : Hid (Mt.dnF 32 [] (s.data.toList.drop 0) = R) := Lib.hid (by
        rw [← hR]; unfold Mt.dnL; rw [if_neg (by omega), if_neg (by intro h; rw [h] at hll; simp at hll; omega)]; rfl)
      have hpos : decide ((0 : Int) < s.size) = true := decide_eq_true (by omega)
      have hpos2 : decide (0 < s.size) = true := decide_eq_true h0
      clear hR hll hbig
      go_enter Tryz.func27, Tryz.ntmps27
      go_wp2_with fail
      go_loopw [4, 5] (fun v i wr => ∃ (p : Nat) (d : List (List Mt.Av)) (a : Option Addr) (c : Nat), i = .int .i64 p ∧ v = .slice a d.length c ∧ Hid (∃ g xs, w.heap.size ≤ g ∧ IsRw 89 1 wr g (.slice a d.length c) d.length xs ∧ AreRdns wr (fun b => w.heap.size ≤ b ∧ b ≠ g) xs d) ∧ p ≤ s.size ∧ Hid (d.length ≤ 32) ∧ Hid (Mt.dnF (32 - d.length) d (s.data.toList.drop p) = R) ∧ Hid (Below w.heap.size w wr))
        (fun _ i _ => s.size - (intOf i).toNat)
      case atStart => exact ⟨0, [], none, 0, rfl, rfl, Lib.hid ⟨w.heap.size, [], Nat.le_refl _, IsRw.nil _ _ _ _, rfl, fun i hi => by simp at hi⟩, Nat.zero_le _, Lib.hid (by simp), HR0, Lib.hid (Below.refl _ _)⟩
      case round =>
        obtain ⟨p0, d, a, c, rfl, rfl, HO, hp0, HD32, HR, HB⟩ := hrel
        obtain ⟨z, hz⟩ : ∃ z, ((d.length : Int) == 32) = z := ⟨_, rfl⟩
        have HZ : Hid ((d.length = 32) ↔ z = true) := Lib.hid (by rw [← hz]; simp; omega)
        cases z
        · have HM : Hid (d.length < 32) := Lib.hid (by have h1 := HD32.out; have h2 : d.length ≠ 32 := fun h => by have := HZ.out.1 h; cases this
                                                       omega)
          obtain ⟨m, hm⟩ : ∃ m, 32 - d.length = m + 1 := ⟨31 - d.length, by have := HM.out; omega⟩
          have HMM := Lib.hid hm
          rw [hm] at HR
          obtain ⟨RR, hRR⟩ : ∃ RR, Mt.rdnF 8 [] (s.data.toList.drop p0) = RR := ⟨_, rfl⟩
          have HRR0 := Lib.hid hRR
          have HER : Hid (∀ e, RR = .error e → R = .error e) := Lib.hid (fun e h => by rw [← HR.out, Mt.dnF, hRR, h])
          have HOK1 : Hid (∀ r, RR = .ok (r, []) → R = .ok (d ++ [r])) := Lib.hid (fun r h => by rw [← HR.out, Mt.dnF, hRR, h])
          have HOK2 : Hid (∀ r x l2, RR = .ok (r, x :: l2) → Mt.dnF m (d ++ [r]) l2 = R) := Lib.hid (fun r x l2 h => by rw [← HR.out, Mt.dnF, hRR, h])
          clear hm hRR HR HD32 HZ
          go_wp2_with fail
          obtain ⟨wo, rfl⟩ : ∃ wo, wo = wr := ⟨_, rfl⟩
          go_loopw [5, 6] (fun i v wi => ∃ (p : Nat) (r : List Mt.Av) (a2 : Option Addr) (c2 : Nat), i = .int .i64 p ∧ v = .slice a2 r.length c2 ∧ p0 ≤ p ∧ p ≤ s.size ∧ r.length ≤ 8 ∧ Hid (IsOwn 87 2 wo.heap.size wi (.slice a2 r.length c2) r.length (avs r)) ∧ Hid (Mt.rdnF (8 - r.length) r (s.data.toList.drop p) = RR) ∧ Hid (∀ a ∈ r, a.1.length ≤ 32) ∧ Hid (Below wo.heap.size wo wi))
            (fun i _ _ => s.size - (intOf i).toNat)
          case atStart => exact ⟨p0, [], none, 0, rfl, rfl, Nat.le_refl _, hp0, by simp, Lib.hid (IsOwn.nil _ _ _ _), HRR0, Lib.hid (by simp), Lib.hid (Below.refl _ _)⟩
          case round =>
            obtain ⟨p, r, a2, c2, rfl, rfl, hpp, hp, hr8, HOW, HRR, HT, HBI⟩ := hrel
            obtain ⟨z8, hz8⟩ : ∃ z, ((r.length : Int) == 8) = z := ⟨_, rfl⟩
            cases z8
            · have hr8' : r.length < 8 := by simp at hz8; omega
              obtain ⟨q, hq⟩ : ∃ q, 8 - r.length = q + 1 := ⟨7 - r.length, by omega⟩
              rw [hq] at HRR
              have HR8 := Lib.hid (And.intro hr8' hq)
              clear hr8 hr8' hq
              go_wp2_with fail
              go_loop [7] (fun ev => ∃ e : Nat, ev = .int .i64 e ∧ p ≤ e ∧ e ≤ s.size ∧ Hid (∀ j (hj : j < s.size), p ≤ j → j < e → s[j].toNat ≠ 61))
                (fun ev => s.size - (intOf ev).toNat)
              case atStart => exact ⟨p, rfl, Nat.le_refl _, hp, Lib.hid (fun j _ h1 h2 => by omega)⟩
              case round =>
                obtain ⟨e, rfl, hpe, hes, HE⟩ := hrel
                by_cases hlt : e < s.size
                · by_cases h61 : s[e].toNat = 61
                  · have hc1 : ((s[e].toNat : Int) != 61) = false := by simp [h61]
                    have HCUT := Lib.hid (Mt.cut_at s p e hpe hlt h61 HE.out)
                    obtain ⟨T, hT⟩ : ∃ T, (s.data.toList.drop p).take (e - p) = T := ⟨_, rfl⟩
                    rw [hT] at HCUT
                    have hTl : T.length ≤ 4096 := by rw [← hT, List.length_take, List.length_drop, HLL.out]; omega
                    have hx : s.extract p e = Mt.str T := HCUT.out.2
                    have hne : ((e : Int) == (s.size : Int)) = false := by simp; omega
                    have he1 : (p : Int) ≤ (e : Int) := by omega
                    have he2 : (e : Int) ≤ (s.size : Int) := by omega
                    have HTY := Lib.hid (fun u => rtype_any (Mt.str T) u (by rw [Mt.str_size]; omega))
                    rw [Mt.str_data] at HTY
                    have HTL := Lib.hid hTl
                    clear hT h61 hTl
                    cases hty : Mt.typL T with
                    | false =>
                      rw [hty] at HTY
                      have HF : Hid (R = .error 4) := Lib.hid (HER.out 4 (by rw [← HRR.out]; simp [Mt.rdnF, HCUT.out.1, hty]))
                      clear hty
                      go_wp2_with fail
                      refine (HTY.out _).mono ?_
                      rintro x w2 ⟨rfl, hb⟩
                      have HB2 := Lib.hid (HBI.out.trans (hb.mono HBI.out.size))
                      clear hb
                      go_wp2_with fail
                      go_ret2
                      exact ⟨HB.out.trans (HB2.out.mono HB.out.size), by rw [HF.out]; rfl⟩
                    | true =>
                      rw [hty] at HTY
                      have HTL32 := Lib.hid (Mt.typ_len hty)
                      have HH := Lib.hid (fun (u : World) (hu : Below wr.heap.size wr u) => rhas_any ((HOW.out.below hu).avs (by have := HR8.out; omega)) (Mt.str T) (by have := HTL.out; rw [Mt.str_size]; omega) (fun a ha => by have := HT.out a ha; omega))
                      rw [Mt.str_data] at HH
                      cases hhas : Mt.hasL r T with
                      | true =>
                        rw [hhas] at HH
                        have HF : Hid (R = .error 21) := Lib.hid (HER.out 21 (by rw [← HRR.out]; simp [Mt.rdnF, HCUT.out.1, hty, hhas]))
                        clear hty hhas
                        go_wp2_with fail
                        refine (HTY.out _).mono ?_
                        rintro x w2 ⟨rfl, hb⟩
                        have hb0 := (Below.refl w2.heap.size w2).alloc (Nat.le_refl _) (.cells #[.string (Mt.str T), .string ByteArray.empty] 87)
                        have HBX := Lib.hid (hb.trans (hb0.mono hb.size))
                        have HK := Lib.hid (heap_alloc_new w2 (.cells #[.string (Mt.str T), .string ByteArray.empty] 87))
                        obtain ⟨x0, x1⟩ := box2_of HK.out
                        have HBW2 := Lib.hid hb.size
                        clear hb hb0
                        go_wp2_with fail
                        refine (HH.out _ HBX.out).mono ?_
                        rintro x w3 ⟨rfl, hb⟩
                        have HB2 := Lib.hid (HBI.out.trans ((HBX.out.trans (hb.mono HBX.out.size)).mono HBI.out.size))
                        clear hb
                        go_wp2_with fail
                        go_ret2
                        exact ⟨HB.out.trans (HB2.out.mono HB.out.size), by rw [HF.out]; rfl⟩
                      | false =>
                        rw [hhas] at HH
                        have HVA := Lib.hid (fun u => rvalue_any s (e + 1) u (by omega) (by omega))
                        have hcast : ((e + 1 : Nat) : Int) = (e : Int) + 1 := by push_cast; rfl
                        rw [hcast] at HVA
                        unfold rvalV at HVA
                        clear hcast
                        cases hval : Mt.valL (s.data.toList.drop (e + 1)) with
                        | none =>
                          rw [hval] at HVA
                          have HF : Hid (R = .error 4) := Lib.hid (HER.out 4 (by rw [← HRR.out]; simp [Mt.rdnF, HCUT.out.1, hty, hhas, hval]))
                          clear hty hhas hval
                          go_wp2_with fail
                          refine (HTY.out _).mono ?_
                          rintro x w2 ⟨rfl, hb⟩
                          have hb0 := (Below.refl w2.heap.size w2).alloc (Nat.le_refl _) (.cells #[.string (Mt.str T), .string ByteArray.empty] 87)
                          have HBX := Lib.hid (hb.trans (hb0.mono hb.size))
                          have HK := Lib.hid (heap_alloc_new w2 (.cells #[.string (Mt.str T), .string ByteArray.empty] 87))
                          obtain ⟨x0, x1⟩ := box2_of HK.out
                          have HBW2 := Lib.hid hb.size
                          clear hb hb0
                          go_wp2_with fail
                          refine (HH.out _ HBX.out).mono ?_
                          rintro x w3 ⟨rfl, hb⟩
                          have HBY := Lib.hid (HBX.out.trans (hb.mono HBX.out.size))
                          clear hb
                          go_wp2_with fail
                          refine (HVA.out _).mono ?_
                          rintro x w4 ⟨rfl, hb⟩
                          have HB2 := Lib.hid (HBI.out.trans ((HBY.out.trans (hb.mono HBY.out.size)).mono HBI.out.size))
                          clear hb
                          go_wp2_with fail
                          go_ret2
                          exact ⟨HB.out.trans (HB2.out.mono HB.out.size), by rw [HF.out]; rfl⟩
                        | some pr =>
                          obtain ⟨V, r2⟩ := pr
                          rw [hval] at HVA
                          simp only at HVA
                          have HTA := Lib.hid (Mt.valF_tail hval)
                          have hr2l : r2.length ≤ s.size - (e + 1) := by
                            obtain ⟨_, n, _, h2⟩ := HTA.out
                            rw [h2, List.length_drop, List.length_drop, HLL.out]; omega
                          obtain ⟨nx, hnx⟩ : ∃ nx, s.size - r2.length = nx := ⟨_, rfl⟩
                          have HNX : Hid (s.data.toList.drop nx = r2 ∧ e + 1 ≤ nx ∧ nx ≤ s.size) := Lib.hid (by
                            obtain ⟨_, n, h1, h2⟩ := HTA.out
                            rw [List.length_drop, HLL.out] at h1
                            have h3 : r2.length = s.size - (e + 1) - n := by rw [h2, List.length_drop, List.length_drop, HLL.out]
                            have h4 : nx = e + 1 + n := by omega
                            refine ⟨?_, by omega, by omega⟩
                            rw [h2, h4, List.drop_drop])
                          rw [hnx] at HVA
                          have HPU := Lib.hid (fun (u : World) (hu : Below wr.heap.size wr u) => own_push (T := 89) (tx := 89) Tryz.underlying89 Tryz.underlying89 HI.out.1 HI.out.2.1 HI.out.2.2.1 HI.out.2.2.2 rfl (HOW.out.below hu) (Nat.le_trans HBI.out.size hu.size) (avs_one _) #[.string (Mt.str T), .string (Mt.str V)] rfl (by simp [Value.oneCell']) (by have := HR8.out; omega) (by have := HR8.out; omega))
                          have HAV : Hid (avs r ++ (#[.string (Mt.str T), .string (Mt.str V)] : Array Value).toList = avs (r ++ [(T, V)])) := Lib.hid (by rw [avs_append]; rfl)
                          have HT2 : Hid (∀ a ∈ r ++ [(T, V)], a.1.length ≤ 32) := Lib.hid (by
                            intro a ha
                            rw [List.mem_append, List.mem_singleton] at ha
                            rcases ha with ha | rfl
                            · exact HT.out a ha
                            · exact HTL32.out)
                          have HS1 : Hid (∀ l2, r2 = 43 :: l2 → Mt.rdnF q (r ++ [(T, V)]) l2 = RR) := Lib.hid (fun l2 h => by
                            rw [← HRR.out]; simp [Mt.rdnF, HCUT.out.1, hty, hhas, hval, h])
                          have HS2 : Hid ((∀ l2, r2 ≠ 43 :: l2) → RR = .ok (r ++ [(T, V)], r2)) := Lib.hid (fun h => by
                            rw [← HRR.out]; simp only [Mt.rdnF, HCUT.out.1, hty, hhas, hval, Bool.not_true, Bool.false_eq_true, if_false]
                            try split
                            all_goals first | rfl | (rename_i l2 h2; exact absurd rfl (h l2)))
                          clear hty hhas hval hnx hr2l
                          go_wp2_with fail
                          refine (HTY.out _).mono ?_
                          rintro x w2 ⟨rfl, hb⟩
                          have hb0 := (Below.refl w2.heap.size w2).alloc (Nat.le_refl _) (.cells #[.string (Mt.str T), .string ByteArray.empty] 87)
                          have HBX := Lib.hid (hb.trans (hb0.mono hb.size))
                          have HK := Lib.hid (heap_alloc_new w2 (.cells #[.string (Mt.str T), .string ByteArray.empty] 87))
                          obtain ⟨x0, x1⟩ := box2_of HK.out
                          have HBW2 := Lib.hid hb.size
                          clear hb hb0
                          go_wp2_with fail
                          refine (HH.out _ HBX.out).mono ?_
                          rintro x w3 ⟨rfl, hb⟩
                          have HBY := Lib.hid (HBX.out.trans (hb.mono HBX.out.size))
                          have HK3 := Lib.hid ((hb.block _ (lt_of_block HK.out)).trans HK.out)
                          clear hb
                          go_wp2_with fail
                          refine (HVA.out _).mono ?_
                          rintro x w4 ⟨rfl, hb⟩
                          have HBV := Lib.hid (HBY.out.trans (hb.mono HBY.out.size))
                          have HK4 := Lib.hid ((hb.block _ (lt_of_block HK3.out)).trans HK3.out)
                          clear hb
                          have HBW := Lib.hid (Below.setCell HBV.out (p := ⟨w2.heap.size, 1, none⟩) HBW2.out (.string (Mt.str V)))
                          obtain ⟨k0, k1⟩ := box2_of HK4.out
                          have k2 : w4.frozen? ⟨w2.heap.size, 1, none⟩ = false := by simp [World.frozen?, HK4.out]
                          have HK5 : Hid ((w4.setCell ⟨w2.heap.size, 1, none⟩ (.string (Mt.str V))).heap[w2.heap.size]? = some (.cells #[.string (Mt.str T), .string (Mt.str V)] 87 (0, 0))) := Lib.hid (by
                            rw [heap_setCell_same _ _ _ _ _ _ HK4.out]; rfl)
                          obtain ⟨m0, m1⟩ := box2_of HK5.out
                          go_upto_region 23 with fail
                          clear k0 k1 k2
                          have HBW' := Lib.hid HBW.out
                          clear HBW
                          generalize (w4.setCell ⟨w2.heap.size, 1, none⟩ (.string (Mt.str V))) = wx at *
                          have HBW := HBW'
                          obtain ⟨a3, c3, w5, hrun, hown, hb5⟩ := HPU.out _ HBW.out
                          rw [HAV.out] at hown
                          have HO5 : Hid (IsOwn 87 2 wo.heap.size w5 (.slice a3 (r.length + 1) c3) (r ++ [(T, V)]).length (avs (r ++ [(T, V)]))) := Lib.hid (by rw [List.length_append]; exact hown)
                          have HB5 := Lib.hid ((HBI.out.trans (HBW.out.mono HBI.out.size)).trans hb5)
                          clear hown hb5
                          have hr8l : (r ++ [(T, V)]).length = r.length + 1 := by simp
                          cases r2 with
                          | nil =>
                            have hnx : nx = s.size := by
                              have h1 := HNX.out.1
                              have h2 := congrArg List.length h1
                              rw [List.length_drop, HLL.out] at h2
                              have := HNX.out.2.2
                              simp at h2; omega
                            subst hnx
                            have HF : Hid (R = .ok (d ++ [r ++ [(T, V)]])) := Lib.hid (HOK1.out _ (HS2.out (fun l2 h => by cases h)))
                            obtain ⟨g, xs, hg, hrw, hds⟩ := HO.out
                            obtain ⟨a6, c6, w6, g6, xs6, hrun2, hrw6, hds6, hg6, hb6⟩ := dn_step hrw hds rfl hg HB.out.size (HO5.out.rdnB (by have := HR8.out; rw [List.length_append]; simp; omega)) HB5.out (by have := HM.out; omega)
                            have HO6 := Lib.hid (And.intro hg6 (And.intro hrw6 hds6))
                            have HB6 := Lib.hid ((HB.out.trans (HB5.out.mono HB.out.size)).trans hb6)
                            clear hrw hds hrw6 hds6 hb6
                            go_upto_region 24 with (refine wpList_append_run rfl _ _ 89 89 rfl _ _ rfl rfl hrun ?_)
                            clear hrun
                            go_wp2_with (refine wpList_append_run rfl _ _ 23 23 rfl _ _ rfl rfl hrun2 ?_)
                            go_ret2
                            exact ⟨HB6.out, by rw [HF.out]; exact ⟨_, rfl, IsRw.dn (ok := fun b => w.heap.size ≤ b ∧ b ≠ g6) (by rw [List.length_append]; exact HO6.out.2.1) HO6.out.2.2 (by have := HM.out; rw [List.length_append]; simp; omega)⟩⟩
                          | cons x l2 =>
                            have hxl : nx < s.size := by
                              have h1 := HNX.out.1
                              have h2 := congrArg List.length h1
                              rw [List.length_drop, HLL.out] at h2
                              simp at h2; omega
                            have hdx := Mt.drop_cons s nx hxl
                            rw [HNX.out.1] at hdx
                            have hx1 : s[nx] = x := by cases hdx; rfl
                            have hx2 : s.data.toList.drop (nx + 1) = l2 := by cases hdx; rfl
                            have hnn : ((nx : Int) == (s.size : Int)) = false := by simp; omega
                            have hend : x = 44 ∨ x = 43 := by have := HTA.out.1; simpa [Mt.endsL] using this
                            clear hdx
                            rcases hend with rfl | rfl
                            · have HF : Hid (Mt.dnF m (d ++ [r ++ [(T, V)]]) (s.data.toList.drop (nx + 1)) = R) := Lib.hid (by rw [hx2]; exact HOK2.out _ _ _ (HS2.out (fun l2 h => by cases h)))
                              have h44 : ((s[nx].toNat : Int) == 44) = true := by rw [hx1]; rfl
                              have HNL := Lib.hid HNX.out.2
                              obtain ⟨g, xs, hg, hrw, hds⟩ := HO.out
                              obtain ⟨a6, c6, w6, g6, xs6, hrun2, hrw6, hds6, hg6, hb6⟩ := dn_step hrw hds rfl hg HB.out.size (HO5.out.rdnB (by have := HR8.out; rw [List.length_append]; simp; omega)) HB5.out (by have := HM.out; omega)
                              have HO6 := Lib.hid (And.intro hg6 (And.intro hrw6 hds6))
                              have HB6 := Lib.hid ((HB.out.trans (HB5.out.mono HB.out.size)).trans hb6)
                              clear hrw hds hrw6 hds6 hb6
                              clear hx2 hx1
                              go_upto_region 24 with (refine wpList_append_run rfl _ _ 89 89 rfl _ _ rfl rfl hrun ?_)
                              clear hrun
                              go_wp2_with (refine wpList_append_run rfl _ _ 23 23 rfl _ _ rfl rfl hrun2 ?_)
                              go_roundw
                              case rel => exact ⟨nx + 1, d ++ [r ++ [(T, V)]], a6, c6, by go_num, by rw [List.length_append]; rfl, by rw [List.length_append]; exact Lib.hid ⟨g6, xs6, HO6.out⟩, by omega, by rw [List.length_append]; have := HM.out; exact Lib.hid (by simp; omega), by rw [List.length_append, show 32 - (d.length + [r ++ [(T, V)]].length) = m by have := HMM.out; simp; omega]; exact HF, HB6⟩
                              case measure => simp [intOf]; have := HNL.out; omega
                            · have HF : Hid (Mt.rdnF q (r ++ [(T, V)]) (s.data.toList.drop (nx + 1)) = RR) := Lib.hid (by rw [hx2]; exact HS1.out _ rfl)
                              have h44 : ((s[nx].toNat : Int) == 44) = false := by rw [hx1]; rfl
                              have HNL := Lib.hid HNX.out.2
                              clear hx2 hx1
                              go_upto_region 24 with (refine wpList_append_run rfl _ _ 89 89 rfl _ _ rfl rfl hrun ?_)
                              clear hrun
                              go_wp2_with fail
                              go_roundw
                              case rel => exact ⟨nx + 1, r ++ [(T, V)], a3, c3, by go_num, by rw [List.length_append]; rfl, by have := HNL.out; omega, by omega, by have := HR8.out; rw [hr8l]; omega, by rw [hr8l] at HO5 ⊢; exact HO5, by rw [hr8l, show 8 - (r.length + 1) = q by have := HR8.out; omega]; exact HF, HT2, HB5⟩
                              case measure => simp [intOf]; have := HNL.out; omega
                  · have hc1 : ((s[e].toNat : Int) != 61) = true := by simp; omega
                    have HE2 : Hid (∀ j (hj : j < s.size), p ≤ j → j < e + 1 → s[j].toNat ≠ 61) := Lib.hid (by
                      intro j hj h1 h2
                      by_cases h3 : j = e
                      · subst h3; exact h61
                      · exact HE.out j hj h1 (by omega))
                    go_wp2_with fail
                    go_round
                    case rel => exact ⟨e + 1, by go_num, by omega, by omega, HE2⟩
                    case measure => simp [intOf]; omega
                · have HF : Hid (R = .error 4) := Lib.hid (HER.out 4 (by
                    rw [← HRR.out]; simp only [Mt.rdnF, Mt.cut_far s p (fun j hj h1 => HE.out j hj h1 (by omega))]))
                  have hee : ((e : Int) == (s.size : Int)) = true := by simp; omega
                  go_wp2_with fail
                  go_ret2
                  exact ⟨HB.out.trans (HBI.out.mono HB.out.size), by rw [HF.out]; rfl⟩
            · have HF : Hid (R = .error 9) := Lib.hid (HER.out 9 (by
                have h : r.length = 8 := by simp at hz8; omega
                rw [← HRR.out, h]; rfl))
              go_wp2_with fail
              go_ret2
              exact ⟨HB.out.trans (HBI.out.mono HB.out.size), by rw [HF.out]; rfl⟩
        · have HF : Hid (R = .error 9) := Lib.hid (by
            have h := HZ.out.2 rfl
            rw [← HR.out, h]; rfl)
          go_wp2_with fail
          go_ret2
          exact ⟨HB.out, by rw [HF.out]; rfl⟩
end Go.Proofs.YtngdbhncafnliaaGreat
