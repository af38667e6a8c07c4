/-
  What records comes to: the records at the beginning of a half.
-/
import Derived.Test.YtmahkgkhnpffeaaJrQ
import Derived.Test.YtmahkgkhnpffeaaGp
namespace Go.Proofs.Ytmahkgkhnpffeaa
open Go.RowKit

theorem IsOwn.ts {base : Nat} {w : World} {v : Value} {ls : List (List UInt8)} (h : IsOwn 9 1 base w v ls.length (tcs ls)) : IsTs w v ls := by
  obtain ⟨g, _, hl, h⟩ := h
  rcases h with ⟨h0, rfl⟩ | ⟨off, cap, cur, rfl, h2, h3, h4, h5⟩
  · have : ls = [] := List.eq_nil_of_length_eq_zero h0
    subst this
    exact ⟨none, 0, rfl, by simp, .inl rfl⟩
  · refine ⟨_, cap, rfl, h3, .inr ⟨g, off, rfl, lt_of_block h2, fun j hj => ?_⟩⟩
    rw [cell_of_row w g _ cur 9 (0, 0) h2, h5 j (by rw [tcs_length]; exact hj)]
    simp [tcs]
theorem tcs_one (ls : List (List UInt8)) : ∀ u ∈ tcs ls, u.oneCell' = true := by
  intro u hu
  simp only [tcs, List.mem_map] at hu
  obtain ⟨x, _, rfl⟩ := hu
  rfl
theorem IsCls.drop {w : World} {a aK : Option Addr} {cap k : Nat} {l : List Mt.Cl} (h : IsCls w (.slice a l.length cap) l) (hk : k ≤ l.length) (hc : l.length ≤ cap) (ha : (if cap = k then a else Option.map (fun x => x.add (k * 5)) a) = aK) :
    IsCls w (.slice aK (l.length - k) (cap - k)) (l.drop k) := by
  obtain ⟨a1, cap1, h1, h2, h3⟩ := h
  cases h1
  have hl : (l.drop k).length = l.length - k := List.length_drop
  refine ⟨aK, cap - k, by rw [hl], by omega, ?_⟩
  by_cases he : k = l.length
  · left; rw [he]; simp
  · rcases h3 with h3 | ⟨b, off, h4, h5, h6⟩
    · subst h3; exact absurd (Nat.le_zero.1 (by simpa using hk)) (by simpa using he)
    · rw [if_neg (by omega), h4] at ha
      subst ha
      refine .inr ⟨b, off + k * 5, by simp only [Option.map_some]; rw [add_off], h5, fun j hj => ?_⟩
      have := h6 (k + j) (by omega)
      rw [show off + (k + j) * 5 = off + k * 5 + j * 5 by omega] at this
      rw [List.getElem_drop]
      exact this
theorem Mt.recordsF_none {f : Nat} {l : List Mt.Cl} {gen k : Nat} (h : l.length = 0 ∨ (Mt.record l gen k).2 = 0) : Mt.recordsF f l gen k = [] := by
  cases f with
  | zero => rfl
  | succ f => unfold Mt.recordsF; rw [if_pos h]
theorem Mt.recordsF_some {f : Nat} {l : List Mt.Cl} {gen k : Nat} (h : 0 < l.length) (h2 : (Mt.record l gen k).2 ≠ 0) (hf : l.length ≤ f) : ∃ g, (l.drop (Mt.record l gen k).2).length ≤ g ∧ Mt.recordsF f l gen k = (Mt.record l gen k).1 :: Mt.recordsF g (l.drop (Mt.record l gen k).2) gen (k + 1) := by
  cases f with
  | zero => omega
  | succ f =>
    refine ⟨f, ?_, ?_⟩
    · rw [List.length_drop]; omega
    · conv => lhs; unfold Mt.recordsF
      rw [if_neg (by rintro (h3 | h3); omega; exact h2 h3)]
theorem Mt.record_le {l : List Mt.Cl} {gen k : Nat} : (Mt.record l gen k).2 ≤ l.length := by
  unfold Mt.record
  split
  · exact Nat.zero_le _
  · split
    · show (l.getD 0 Mt.Cl.zero).parts ≤ _; omega
    · exact Nat.zero_le _
/-- Where records stands. -/
structure RecAt (w wr : World) (gen : Nat) (ls l : List Mt.Cl) (out : List (List UInt8)) (vh vo : Value) : Prop where
  cls : IsCls w vh l
  own : IsOwn 9 1 w.heap.size wr vo out.length (tcs out)
  rest : ∃ f, l.length ≤ f ∧ Mt.records ls gen = out ++ Mt.recordsF f l gen out.length
  less : l.length + out.length ≤ ls.length
  body : ∀ c ∈ l, c.body.length ≤ 110
  below : Below w.heap.size w wr
section
variable {w u : World}
theorem RecAt.fin {wr : World} {gen : Nat} {ls l : List Mt.Cl} {out : List (List UInt8)} {vh vo : Value} (h : RecAt w wr gen ls l out vh vo) (h0 : l.length = 0 ∨ (Mt.record l gen out.length).2 = 0) : Mt.records ls gen = out := by
  obtain ⟨f, _, h2⟩ := h.rest
  rw [h2, Mt.recordsF_none h0, List.append_nil]
set_option maxRecDepth 100000 in
set_option maxHeartbeats 1000000 in
theorem records_any {v : Value} {ls : List Mt.Cl} (hv : IsCls w v ls) (hn : ls.length ≤ 8192) (hb : ∀ c ∈ ls, c.body.length ≤ 110) (gen : Nat) :
    Calls Try.prog 37 #[v, .int .u64 (gen : Int)] w fun e w' => ∃ x, e = .returned x ∧ IsTs w' x (Mt.records ls gen) ∧ Below w.heap.size w w' := by
  obtain ⟨i0, hi, hz0, hz1, hz2⟩ := info_parts Try.infoStr6
  have HI := Lib.hid (And.intro hi (And.intro hz0 (And.intro hz1 hz2)))
  have HN := Lib.hid hn
  have HR0 : Hid (RecAt w w gen ls ls [] v (.slice none 0 0)) := Lib.hid ⟨hv, IsOwn.nil _ _ _ _, ⟨ls.length, Nat.le_refl _, rfl⟩, by simp, hb, Below.refl _ _⟩
  obtain ⟨a0, c0, rfl, -, -⟩ := hv
  have HPOST : Hid (∀ (x : Value) (w' : World), IsTs w' x (Mt.records ls gen) → Below w.heap.size w w' → (fun (e : Ending) (w' : World) => ∃ x, e = .returned x ∧ IsTs w' x (Mt.records ls gen) ∧ Below w.heap.size w w') (.returned x) w') := Lib.hid (fun x w' h1 h2 => ⟨x, rfl, h1, h2⟩)
  generalize hPP : (fun (e : Ending) (w' : World) => ∃ x, e = .returned x ∧ IsTs w' x (Mt.records ls gen) ∧ Below w.heap.size w w') = PP at *
  clear hPP hb hi hz0 hz1 hz2 hn
  go_enter Try.func37, Try.ntmps37
  go_wp2_with fail
  go_loopw [0, 5, 6, 7] (fun vh vo _ _ wr => ∃ (l : List Mt.Cl) (out : List (List UInt8)) (a : Option Addr) (c : Nat) (a2 : Option Addr) (c2 : Nat), vh = .slice a l.length c ∧ vo = .slice a2 out.length c2 ∧ Hid (RecAt w wr gen ls l out (.slice a l.length c) (.slice a2 out.length c2)))
    (fun vh _ _ _ _ => match vh with | .slice _ n _ => n | _ => 0)
  case atStart => exact ⟨ls, [], a0, c0, none, 0, rfl, rfl, HR0⟩
  case round =>
    obtain ⟨l, out, a, c, a2, c2, rfl, rfl, HRA⟩ := hrel
    obtain ⟨n, hln⟩ : ∃ n, l.length = n := ⟨_, rfl⟩
    obtain ⟨m, hom⟩ : ∃ m, out.length = m := ⟨_, rfl⟩
    have hnm : n + m ≤ 8192 := by have := HRA.out.less; have := HN.out; omega
    have HCLS := Lib.hid HRA.out.cls
    have HOWN := Lib.hid HRA.out.own
    have HLN := Lib.hid hln
    have HOM := Lib.hid hom
    rw [hln] at HCLS ⊢
    rw [hom] at HOWN ⊢
    by_cases h0 : n = 0
    · have HF := Lib.hid (HRA.out.fin (.inl (hln.trans h0)))
      have hd : decide (0 < n) = false := decide_eq_false (by omega)
      have hd2 : decide ((0 : Int) < (n : Int)) = false := decide_eq_false (by omega)
      clear h0 hln hom
      go_wp2_with fail
      have hts : IsTs wr (.slice a2 m c2) out := IsOwn.ts (base := w.heap.size) (by rw [HOM.out]; exact HOWN.out)
      exact HPOST.out _ _ (by rw [HF.out]; exact hts) HRA.out.below
    · have hd : decide (0 < n) = true := decide_eq_true (by omega)
      have hd2 : decide ((0 : Int) < (n : Int)) = true := decide_eq_true (by omega)
      have hwm : IntKind.u64.wrap (m : Int) = (m : Int) := Mt.u64_nat m (by omega)
      have HREC := Lib.hid (record_any (w := wr) (HRA.out.cls.below HRA.out.below) (by omega) (by omega) HRA.out.body gen m)
      rw [hln] at HREC
      have HLE := Lib.hid (show (Mt.record l gen m).2 ≤ n by rw [← hln]; exact Mt.record_le)
      have HFI := Lib.hid (show (Mt.record l gen m).2 = 0 → Mt.records ls gen = out from fun h => HRA.out.fin (.inr (by rw [hom]; exact h)))
      have HSO := Lib.hid (show (Mt.record l gen m).2 ≠ 0 → ∃ f, (l.drop (Mt.record l gen m).2).length ≤ f ∧ Mt.records ls gen = (out ++ [(Mt.record l gen m).1]) ++ Mt.recordsF f (l.drop (Mt.record l gen m).2) gen (out ++ [(Mt.record l gen m).1]).length from fun h => by
        obtain ⟨f, h1, h2⟩ := HRA.out.rest
        rw [hom] at h2
        obtain ⟨g, h3, h4⟩ := Mt.recordsF_some (gen := gen) (k := m) (by omega) h h1
        exact ⟨g, h3, by rw [h2, h4, List.length_append, List.length_singleton, hom]; simp⟩)
      clear hln hom
      go_wp2_with fail
      refine (HREC.out).mono ?_
      rintro e w2 ⟨rfl, hb⟩
      have HB2 := Lib.hid hb
      clear hb
      obtain ⟨R, K, hRK⟩ : ∃ R K, Mt.record l gen m = (R, K) := ⟨_, _, rfl⟩
      rw [hRK] at HLE HFI HSO ⊢
      simp only at HLE HFI HSO ⊢
      have hKn := HLE.out
      clear hRK
      by_cases hK : K = 0
      · have HF := Lib.hid (HFI.out hK)
        have hdk : ((K : Int) == 0) = true := by rw [beq_iff_eq]; omega
        clear hK
        go_wp2_with fail
        have hts : IsTs w2 (.slice a2 m c2) out := IsOwn.ts (base := w.heap.size) (by rw [HOM.out]; exact HOWN.out.below HB2.out)
        exact HPOST.out _ _ (by rw [HF.out]; exact hts) (HRA.out.below.trans (HB2.out.mono HRA.out.below.size))
      · have HS2 := Lib.hid (HSO.out hK)
        have hdk : ((K : Int) == 0) = false := by rw [beq_eq_false_iff_ne]; omega
        have HK0 := Lib.hid hK
        obtain ⟨a3, c3, w3, hrun, hown, hb3⟩ := own_push (T := 29) (tx := 29) Try.underlying29 Try.underlying29 HI.out.1 HI.out.2.1 HI.out.2.2.1 HI.out.2.2.2 rfl (HOWN.out.below HB2.out) (Nat.le_trans HRA.out.below.size HB2.out.size) (tcs_one _) #[.string (Mt.str R)] rfl (by simp [Value.oneCell']) (by omega) (by omega)
        have HO3 := Lib.hid hown
        have HB3 := Lib.hid hb3
        clear hK hown hb3
        go_wp2_with (refine wpList_append_run rfl _ _ 29 29 rfl _ _ rfl rfl hrun ?_)
        have hK1 := HK0.out
        have hld : (l.drop K).length = n - K := by rw [List.length_drop, HLN.out]
        have hol : (out ++ [R]).length = m + 1 := by rw [List.length_append, List.length_singleton, HOM.out]
        have hcd := IsCls.drop (w := w) (a := a) (aK := if c = K then a else Option.map (fun x => x.add (K * 5)) a) (cap := c) (k := K) (l := l) (by rw [HLN.out]; exact HCLS.out) (by rw [HLN.out]; exact hKn) (by
          obtain ⟨_, _, e1, e2, _⟩ := HCLS.out
          cases e1; exact e2) rfl
        rw [HLN.out] at hcd
        refine ⟨⟨l.drop K, out ++ [R], _, _, _, _, by rw [hld], by rw [hol], Lib.hid ⟨?_, ?_, HS2.out, ?_, fun x hx => HRA.out.body x (List.mem_of_mem_drop hx), (HRA.out.below.trans (HB2.out.mono HRA.out.below.size)).trans HB3.out⟩⟩, ?_⟩
        · rw [hld]; exact hcd
        · rw [hol, tcs_append]; exact HO3.out
        · rw [hld, hol]; have := HRA.out.less; have := HLN.out; have := HOM.out; omega
        · show n - K < n
          omega
end
end Go.Proofs.Ytmahkgkhnpffeaa
