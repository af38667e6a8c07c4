/-
  What is written to the first sectors of a disk, flushed, written again, and lost: plain facts.
-/
import Derived.Test.YtlknfgomagmpcaaDkH
namespace Go.Proofs.Ytlknfgomagmpcaa.Mt

/-- The first sectors wait. -/
def pre (n : Nat) (X : List (List UInt8)) : List (Option (List UInt8)) := X.map some ++ List.replicate (n - X.length) none
theorem pre_length (n : Nat) (X : List (List UInt8)) (h : X.length ≤ n) : (pre n X).length = n := by
  unfold pre; rw [List.length_append, List.length_map, List.length_replicate]; omega
theorem pre_nil (n : Nat) : pre n [] = noWaits n := by simp [pre, noWaits]
theorem pre_snoc (n : Nat) (X : List (List UInt8)) (b : List UInt8) (h : X.length < n) : (pre n X).set X.length (some b) = pre n (X ++ [b]) := by
  unfold pre
  have e : n - X.length = (n - (X ++ [b]).length) + 1 := by rw [List.length_append]; simp; omega
  rw [e, List.replicate_succ, List.set_append_right _ _ (by simp), List.length_map, Nat.sub_self, List.set_cons_zero]
  simp
theorem pre_get (n : Nat) (X : List (List UInt8)) (i : Nat) (b : List UInt8) : (pre n X)[i]? = some (some b) ↔ X[i]? = some b := by
  unfold pre
  rcases Nat.lt_or_ge i X.length with h | h
  · rw [List.getElem?_append_left (by simpa using h), List.getElem?_map, List.getElem?_eq_getElem h]; simp
  · rw [List.getElem?_append_right (by simpa using h), List.getElem?_eq_none h, List.getElem?_replicate]
    constructor
    · intro h2; split at h2 <;> simp at h2
    · intro h2; cases h2
theorem pre_keys (n : Nat) (X : List (List UInt8)) (h : X.length ≤ n) : wkeys (pre n X) = List.range X.length := by
  refine List.Perm.eq_of_pairwise (le := fun a b => a < b) (fun a b _ _ h1 h2 => by omega) (wkeys_sorted _) List.pairwise_lt_range ((List.perm_ext_iff_of_nodup (wkeys_nodup _) List.nodup_range).2 fun i => ?_)
  rw [mem_wkeys, List.mem_range]
  constructor
  · rintro ⟨b, hb⟩
    have h2 := (pre_get n X i b).1 hb
    rcases Nat.lt_or_ge i X.length with h3 | h3
    · exact h3
    · rw [List.getElem?_eq_none h3] at h2; cases h2
  · intro h2
    exact ⟨X[i], (pre_get n X i _).2 (List.getElem?_eq_getElem h2)⟩
theorem over_pre (L X : List (List UInt8)) (h : X.length ≤ L.length) : over L (pre L.length X) = X ++ L.drop X.length := by
  apply List.ext_getElem
  · rw [over_length _ _ (pre_length _ _ h), List.length_append, List.length_drop]; omega
  · intro i h1 h2
    rw [over_length _ _ (pre_length _ _ h)] at h1
    simp only [over, List.getElem_zipWith]
    rcases Nat.lt_or_ge i X.length with h3 | h3
    · have e : (pre L.length X)[i]'(by rw [pre_length _ _ h]; exact h1) = some X[i] := by simp [pre, List.getElem_append_left, h3]
      rw [e, List.getElem_append_left h3]; rfl
    · have e : (pre L.length X)[i]'(by rw [pre_length _ _ h]; exact h1) = none := by
        unfold pre
        rw [List.getElem_append_right (by simpa using h3)]; simp
      rw [e, List.getElem_append_right h3, List.getElem_drop]
      show L[i] = _
      congr 1; omega
theorem range_pre (keep : Nat) (torn at' : Int) (n : Nat) (X L : List (List UInt8)) (hX : X.length ≤ n) (hL : L.length = n) : ∀ k, k ≤ X.length → ∀ i (hi : i < L.length),
    (loseK keep torn at' (pre n X) 0 (List.range k) L)[i]? = some (if h : i < k ∧ i < X.length then pick keep torn at' i L[i] (X[i]'h.2) else L[i])
  | 0, _, i, hi => by simp [loseK, hi]
  | k + 1, hk, i, hi => by
    have ih := range_pre keep torn at' n X L hX hL k (by omega)
    have hlen := loseK_length keep torn at' (pre n X) (List.range k) 0 L
    have hkn : k < L.length := by omega
    rw [List.range_succ, loseK_append, List.length_range, Nat.zero_add]
    show ((loseK keep torn at' (pre n X) 0 (List.range k) L).set k _)[i]? = _
    rw [List.getElem?_set]
    by_cases hik : k = i
    · subst hik
      have e1 : (loseK keep torn at' (pre n X) 0 (List.range k) L).getD k [] = L[k] := by
        rw [List.getD_eq_getElem?_getD, ih k hkn, dif_neg (by omega)]; rfl
      have e2 : ((pre n X).getD k none).getD [] = X[k] := by
        rw [List.getD_eq_getElem?_getD, (pre_get n X k X[k]).2 (List.getElem?_eq_getElem (by omega))]; rfl
      rw [if_pos rfl, if_pos (by rw [hlen]; exact hkn), e1, e2, dif_pos ⟨by omega, by omega⟩]
    · rw [if_neg hik, ih i hi]
      by_cases h : i < k ∧ i < X.length
      · rw [dif_pos h, dif_pos ⟨by omega, h.2⟩]
      · rw [dif_neg h, dif_neg (by omega)]
/-- What lasts behind a loss, sector by sector. -/
theorem lose_pre (keep : Nat) (torn at' : Int) (X L : List (List UInt8)) (hX : X.length ≤ L.length) (i : Nat) (hi : i < L.length) :
    ∃ b, (loseAll keep torn at' (pre L.length X) L)[i]? = some b ∧ (X.length ≤ i → b = L[i]) ∧ ∀ (h : i < X.length), b = L[i] ∨ b = X[i] ∨ (i : Int) = torn := by
  refine ⟨_, by unfold loseAll; rw [pre_keys _ _ hX]; exact range_pre keep torn at' L.length X L hX rfl X.length (Nat.le_refl _) i hi, fun h => by rw [dif_neg (by omega)], fun h => ?_⟩
  rw [dif_pos ⟨h, h⟩]
  unfold pick
  split
  · exact .inr (.inr (by assumption))
  · split
    · exact .inr (.inl rfl)
    · exact .inl rfl

/-- A text's first hundred bytes, as a sector. -/
def cut100 (s : ByteArray) : ByteArray := s.extract 0 (min s.size 100)
def secOf (s : ByteArray) : List UInt8 := sec1 (cut100 s).data.toList
theorem cut100_size (s : ByteArray) : (cut100 s).size ≤ 100 := by unfold cut100; rw [ByteArray.size_extract]; omega
theorem secOf_length (s : ByteArray) : (secOf s).length = 128 := sec1_length _

/-- A sector of an image. -/
theorem image_cut (L : List (List UInt8)) (h : ∀ j (h : j < L.length), (L[j]).length = 128) (i : Nat) (hi : i < L.length) : (str L.flatten).extract (i * 128) ((i + 1) * 128) = str L[i] := by
  have hb : ∀ a b : ByteArray, a.data.toList = b.data.toList → a = b := fun a b h => by
    cases a; cases b
    simp only at h
    congr 1
    exact Array.toList_inj.1 h
  apply hb
  rw [ByteArray.data_extract, Array.toList_extract, List.extract_eq_take_drop, str_data, str_data]
  have hs := Mt.flatten_split L i hi h
  rw [Nat.mul_comm i 128, hs.2, List.drop_eq_getElem_cons hi, List.flatten_cons, show (i + 1) * 128 - 128 * i = (L[i]).length by rw [h i hi]; omega]
  exact List.take_left' rfl

/-! ### the disk of twenty sectors -/
theorem count0 (d : Dk) (h : d.cut = 0) : d.count = (d, 0) := by unfold Dk.count; rw [if_pos h]
def e0 : Dk := Dk.new 20
def ew (L X : List (List UInt8)) : Dk := { e0 with lasts := L, waits := pre 20 X }
theorem ew0 : e0 = ew (List.replicate 20 blank) [] := by unfold ew; rw [pre_nil]; rfl
theorem ew_write (L X : List (List UInt8)) (hL : L.length = 20) (hX : X.length < 20) (b : List UInt8) (hb : b.length = 128) : (ew L X).write (X.length : Int) b = (ew L (X ++ [b]), 0) := by
  have ha : (ew L X).ask (X.length : Int) = 0 := by
    unfold Dk.ask
    rw [if_neg (by simp [ew, e0, Dk.new]), if_neg]
    simp only [ew]; omega
  unfold Dk.write
  rw [if_pos ha, if_pos hb, if_pos (show (X.length : Int) < ((ew L X).room : Int) by show (X.length : Int) < ((20 : Nat) : Int); omega), Int.toNat_natCast]
  refine (count0 _ rfl).trans ?_
  show (({ ew L X with waits := (pre 20 X).set X.length (some b) } : Dk), (0 : Int)) = _
  rw [pre_snoc 20 X b hX]
  rfl
theorem ew_flush (L X : List (List UInt8)) (hL : L.length = 20) (hX : X.length ≤ 20) : (ew L X).flush = (ew (X ++ L.drop X.length) [], 0) := by
  unfold Dk.flush
  rw [count0 _ (show (ew L X).cut = 0 from rfl), if_neg (by simp [ew, e0, Dk.new]), if_pos rfl]
  have h := over_pre L X (by omega)
  rw [hL] at h
  unfold Dk.flushed
  show (({ ew L X with lasts := over L (pre 20 X), waits := noWaits L.length } : Dk), (0 : Int)) = _
  rw [h, hL, ← pre_nil]
  rfl

end Go.Proofs.Ytlknfgomagmpcaa.Mt
