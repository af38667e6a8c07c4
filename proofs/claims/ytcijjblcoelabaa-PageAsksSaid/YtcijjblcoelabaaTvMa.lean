/-
  Bytes from a place: their heads, taken apart.
-/
import Derived.Test.YtcijjblcoelabaaTvHa
import Derived.Test.YtcijjblcoelabaaTvK
set_option linter.unusedVariables false
set_option linter.unusedSimpArgs false
namespace Go.Proofs.Ytcijjblcoelabaa
open Go.RowKit
theorem Mt.sub_cons (s : ByteArray) (a b : Nat) (h : a < b) (hb : b ≤ s.size) : Mt.sub s a b = (s[a]'(by omega)) :: Mt.sub s (a + 1) b := by
  have hs : s.data.toList.length = s.size := rfl
  rw [Mt.sub, Mt.sub, List.drop_eq_getElem_cons (by rw [hs]; omega), show b - a = (b - (a + 1)) + 1 by omega, List.take_succ_cons]
  rfl
theorem Mt.sub_self (s : ByteArray) (a : Nat) : Mt.sub s a a = [] := by simp [Mt.sub]
theorem Mt.sub_drop (s : ByteArray) (a b k : Nat) : (Mt.sub s a b).drop k = Mt.sub s (a + k) b := by
  rw [Mt.sub, Mt.sub, List.drop_take, List.drop_drop, show b - a - k = b - (a + k) by omega]
theorem Mt.sub_take (s : ByteArray) (a b k : Nat) (h : a + k ≤ b) : (Mt.sub s a b).take k = Mt.sub s a (a + k) := by
  rw [Mt.sub, Mt.sub, List.take_take, Nat.min_eq_left (by omega), show a + k - a = k by omega]
theorem Mt.sub_getD (s : ByteArray) (a b i : Nat) (h : a + i < b) : (Mt.sub s a b).getD i 0 = s.data.toList.getD (a + i) 0 := by
  rw [Mt.sub, List.getD_eq_getElem?_getD, List.getD_eq_getElem?_getD, List.getElem?_take, if_pos (by omega), List.getElem?_drop]
theorem Mt.gn_congr (l m : List UInt8) (a b : Nat) : ∀ k, (∀ i, i < k → l.getD (a + i) 0 = m.getD (b + i) 0) → Mt.gn l a k = Mt.gn m b k
  | 0, _ => rfl
  | k + 1, h => by rw [Mt.gn, Mt.gn, Mt.gn_congr l m a b k (fun i hi => h i (by omega)), h k (by omega)]
theorem Mt.gn_sub (s : ByteArray) (a b k : Nat) (h : a + 1 + k ≤ b) : Mt.gn (Mt.sub s a b) 1 k = Mt.gn s.data.toList (a + 1) k :=
  Mt.gn_congr _ _ _ _ _ fun i hi => by rw [Mt.sub_getD _ _ _ _ (by omega), Nat.add_assoc]
/-- The cases of a head. -/
inductive HeadC (s : ByteArray) (p fin : Nat) : Prop
  | none (h : fin ≤ p) (e : Mt.splitL (Mt.sub s p fin) = .error 3)
  | tag (h : p < fin) (hf : fin ≤ s.size) (ht : (s[p]'(by omega)).toNat % 32 = 31) (e : Mt.splitL (Mt.sub s p fin) = .error 7)
  | short (h : p < fin) (hf : fin ≤ s.size) (ht : (s[p]'(by omega)).toNat % 32 ≠ 31) (h2 : fin ≤ p + 1) (e : Mt.splitL (Mt.sub s p fin) = .error 3)
  | bad (h : p < fin) (hf : fin ≤ s.size) (ht : (s[p]'(by omega)).toNat % 32 ≠ 31) (h2 : p + 1 < fin) (hc : (s[p + 1]'(by omega)).toNat = 128 ∨ 132 < (s[p + 1]'(by omega)).toNat) (e : Mt.splitL (Mt.sub s p fin) = .error 8)
  | long (h : p < fin) (hf : fin ≤ s.size) (ht : (s[p]'(by omega)).toNat % 32 ≠ 31) (h2 : p + 1 < fin) (k : Nat) (hk0 : 0 < k) (hk4 : k ≤ 4) (hc : (s[p + 1]'(by omega)).toNat = 128 + k) (hfar : fin < p + 2 + k) (e : Mt.splitL (Mt.sub s p fin) = .error 3)
  | big (h : p < fin) (hf : fin ≤ s.size) (ht : (s[p]'(by omega)).toNat % 32 ≠ 31) (h2 : p + 1 < fin) (k : Nat) (hk0 : 0 < k) (hk4 : k ≤ 4) (hc : (s[p + 1]'(by omega)).toNat = 128 + k) (hfar : p + 2 + k ≤ fin) (hbig : 1048576 < Mt.gn s.data.toList (p + 2) k) (e : Mt.splitL (Mt.sub s p fin) = .error 5)
  | ok (h : p < fin) (hf : fin ≤ s.size) (ht : (s[p]'(by omega)).toNat % 32 ≠ 31) (h2 : p + 1 < fin) (n q : Nat) (hh : HeadOk s p fin n q (s[p + 1]'(by omega)).toNat) (hl3 : fin - q < n → Mt.splitL (Mt.sub s p fin) = .error 3) (hlk : q + n ≤ fin → ∃ X, Mt.splitL (Mt.sub s p fin) = .ok ((s[p]'(by omega)).toNat, Mt.sub s q (q + n), X) ∧ X.length = fin - (q + n))
theorem Mt.splitL_of_len {c : UInt8} {r x : List UInt8} {n : Nat} (hc : c.toNat % 32 ≠ 31) (h : Mt.lenL r = .ok (n, x)) : Mt.splitL (c :: r) = if x.length < n then .error 3 else .ok (c.toNat, x.take n, x.drop n) := by
  rw [Mt.splitL, if_neg hc, h]
theorem Mt.splitL_of_err {c : UInt8} {r : List UInt8} {e : Nat} (hc : c.toNat % 32 ≠ 31) (h : Mt.lenL r = .error e) : Mt.splitL (c :: r) = .error e := by
  rw [Mt.splitL, if_neg hc, h]
theorem headC (s : ByteArray) (p fin : Nat) (hpf : p ≤ fin) (hf : fin ≤ s.size) : HeadC s p fin := by
  by_cases h : p < fin
  · have hc := Mt.sub_cons s p fin h hf
    by_cases ht : (s[p]'(by omega)).toNat % 32 = 31
    · exact .tag h hf ht (by rw [hc, Mt.splitL, if_pos ht])
    by_cases h2 : p + 1 < fin
    · have hc2 := Mt.sub_cons s (p + 1) fin h2 hf
      have hl2 := Mt.sub_length s (p + 1 + 1) fin hf
      have hub := (s[p + 1]'(by omega)).toNat_lt
      generalize hC : (s[p + 1]'(by omega)) = C at *
      by_cases h1 : C.toNat < 128
      · have hl : Mt.lenL (Mt.sub s (p + 1) fin) = .ok (C.toNat, Mt.sub s (p + 2) fin) := by rw [hc2, Mt.lenL, if_pos h1]
        have hs := Mt.splitL_of_len ht hl
        rw [← hc] at hs
        rw [hl2] at hs
        refine .ok h hf ht h2 C.toNat (p + 2) (by rw [hC]; exact .inl ⟨h1, rfl, rfl⟩) (fun h3 => by rw [hs, if_pos h3]) (fun h3 => ?_)
        refine ⟨_, by rw [hs, if_neg (by omega), Mt.sub_take _ _ _ _ h3], ?_⟩
        rw [Mt.sub_drop, Mt.sub_length _ _ _ hf]
      · by_cases hb : C.toNat = 128 ∨ 132 < C.toNat
        · exact .bad h hf ht h2 (by rw [hC]; exact hb) (by rw [hc]; exact Mt.splitL_of_err ht (by rw [hc2, Mt.lenL, if_neg h1, if_pos hb]))
        · obtain ⟨k, hk⟩ : ∃ k, C.toNat = 128 + k := ⟨C.toNat - 128, by omega⟩
          have hk0 : 0 < k := by omega
          have hk4 : k ≤ 4 := by omega
          by_cases hfar : fin < p + 2 + k
          · exact .long h hf ht h2 k hk0 hk4 (by rw [hC]; exact hk) hfar (by rw [hc]; exact Mt.splitL_of_err ht (by rw [hc2, Mt.lenL, if_neg h1, if_neg hb, if_pos (by rw [hl2]; omega)]))
          · have hg : Mt.gn (C :: Mt.sub s (p + 1 + 1) fin) 1 (C.toNat - 128) = Mt.gn s.data.toList (p + 2) k := by
              rw [← hc2, show C.toNat - 128 = k by omega, Mt.gn_sub _ _ _ _ (by omega)]
            by_cases hbig : 1048576 < Mt.gn s.data.toList (p + 2) k
            · exact .big h hf ht h2 k hk0 hk4 (by rw [hC]; exact hk) (by clear hbig hg; omega) hbig (by rw [hc]; exact Mt.splitL_of_err ht (by rw [hc2, Mt.lenL, if_neg h1, if_neg hb, if_neg (by rw [hl2]; clear hbig hg; omega), hg, if_pos hbig]))
            · have hl : Mt.lenL (Mt.sub s (p + 1) fin) = .ok (Mt.gn s.data.toList (p + 2) k, Mt.sub s (p + 2 + k) fin) := by
                rw [hc2, Mt.lenL, if_neg h1, if_neg hb, if_neg (by rw [hl2]; clear hbig hg; omega), hg, if_neg hbig, Mt.sub_drop, show C.toNat - 128 = k by clear hbig hg; omega]
              have hs := Mt.splitL_of_len ht hl
              rw [← hc, Mt.sub_length _ _ _ hf] at hs
              have hle : Mt.gn s.data.toList (p + 2) k ≤ 1048576 := Nat.le_of_not_lt hbig
              clear hbig hg hl
              generalize hG : Mt.gn s.data.toList (p + 2) k = G at *
              refine .ok h hf ht h2 G (p + 2 + k) (by rw [hC]; exact .inr ⟨k, hk0, hk4, hk, by omega, hG.symm, hle, rfl⟩) (fun h3 => by rw [hs, if_pos h3]) (fun h3 => ?_)
              refine ⟨_, by rw [hs, if_neg (by omega), Mt.sub_take _ _ _ _ h3], ?_⟩
              rw [Mt.sub_drop, Mt.sub_length _ _ _ hf]
    · exact .short h hf ht (by omega) (by rw [hc]; exact Mt.splitL_of_err ht (by rw [show p + 1 = fin by omega, Mt.sub_self]; rfl))
  · obtain rfl : p = fin := by omega
    exact .none (Nat.le_refl _) (by rw [Mt.sub_self]; rfl)
/-- The document's Element, of any bytes. -/
theorem relem_any (s : ByteArray) (hs : s.size ≤ 140737488351232) : ∀ (d dep : Nat), dep + d = 65 → ∀ (w : World) (R p fin : Nat), IsRd w R s p 0 → p ≤ fin → fin ≤ s.size →
    Calls Try.prog 83 #[.pointer (some ⟨R, 0, none⟩), .int .i64 (fin : Int), .int .i64 (dep : Int)] w (ElemP w R s fin d (Mt.sub s p fin))
  | 0, dep, hd, w, R, p, fin, h, _, _ => relem_deep h fin dep (by omega) _
  | d + 1, dep, hd, w, R, p, fin, h, hp, hf => by
    have IH := relem_any s hs d (dep + 1) (by omega)
    rcases headC s p fin hp hf with ⟨h1, e⟩ | ⟨h1, _, ht, e⟩ | ⟨h1, _, ht, h2, e⟩ | ⟨h1, _, ht, h2, hc, e⟩ | ⟨h1, _, ht, h2, k, hk0, hk4, hc, hfar, e⟩ | ⟨h1, _, ht, h2, k, hk0, hk4, hc, hfar, hbig, e⟩ | ⟨h1, _, ht, h2, n, q, hh, hl3, hlk⟩
    · exact relem_none h fin dep d (by omega) h1 _ e
    · exact relem_tag h fin dep d (by omega) h1 hf hs ht _ e
    · exact relem_short h fin dep d (by omega) h1 hf hs ht h2 _ e
    · exact relem_bad h fin dep d (by omega) h1 hf hs ht h2 hc _ e
    · exact relem_long h fin dep d (by omega) h1 hf hs ht h2 k hk0 hk4 hc hfar _ e
    · exact relem_big h fin dep d (by clear hbig; omega) h1 hf hs ht h2 k hk0 hk4 hc hfar hbig _ e
    · exact relem_ok h fin dep d n q (by omega) h1 hf hs ht h2 hh _ hl3 hlk (fun u pk st hu hlt hst => IH u R pk st hu (Nat.le_of_lt hlt) hst)
end Go.Proofs.Ytcijjblcoelabaa
