/-
  Plain facts on stored passwords.
-/
import Derived.Test.YtpdionmecflibaaDoorDigit
import Derived.Test.YtpdionmecflibaaDoorUnhexMath
import Derived.Test.YtpdionmecflibaaDoorShaMath
namespace Go.Proofs.YtpdionmecflibaaDoor.Mt

theorem bytes_ext {a b : ByteArray} (h : a.data.toList = b.data.toList) : a = b := by
  cases a; cases b
  simp only at h
  congr 1
  exact Array.toList_inj.1 h
theorem ext_list (s : ByteArray) (a b : Nat) : (s.extract a b).data.toList = (s.data.toList.take b).drop a := by
  rw [ByteArray.data_extract, Array.toList_extract, List.extract_eq_take_drop, List.drop_take]
theorem app_list (a b : ByteArray) : (a ++ b).data.toList = a.data.toList ++ b.data.toList := by simp

/-- The digits of bytes, as bytes. -/
def hx (l : List UInt8) : List UInt8 := (strOfNums (hex l)).data.toList
theorem hx_append (a b : List UInt8) : hx (a ++ b) = hx a ++ hx b := by
  unfold hx; rw [hex_append, strOfNums_data, strOfNums_data, strOfNums_data, List.map_append]
theorem hx_length (l : List UInt8) : (hx l).length = 2 * l.length := hexs_length l
theorem hx_str (l : List UInt8) : strOfNums (hex l) = str (hx l) := rfl
theorem hx_unhex (l : List UInt8) : unhex (hx l) = (l, true) := unhex_hex l
theorem hx_inj {a b : List UInt8} (h : hx a = hx b) : a = b := by
  have := hx_unhex a
  rw [h, hx_unhex b] at this
  exact ((Prod.mk.inj this).1).symm

theorem dgB_dg (x : Nat) (h : x < 16) : dgB (UInt8.ofNat (dg x).toNat) = true := by
  have : x = 0 ∨ x = 1 ∨ x = 2 ∨ x = 3 ∨ x = 4 ∨ x = 5 ∨ x = 6 ∨ x = 7 ∨ x = 8 ∨ x = 9 ∨ x = 10 ∨ x = 11 ∨ x = 12 ∨ x = 13 ∨ x = 14 ∨ x = 15 := by omega
  rcases this with rfl | rfl | rfl | rfl | rfl | rfl | rfl | rfl | rfl | rfl | rfl | rfl | rfl | rfl | rfl | rfl <;> decide
theorem hx_cons (c : UInt8) (r : List UInt8) : hx (c :: r) = UInt8.ofNat (dg (c.toNat / 16)).toNat :: UInt8.ofNat (dg (c.toNat % 16)).toNat :: hx r := by
  unfold hx; rw [strOfNums_data, strOfNums_data]; rfl
theorem hx_dgB : ∀ l : List UInt8, (hx l).all dgB = true
  | [] => rfl
  | c :: r => by
    have hlt := c.toNat_lt
    rw [hx_cons, List.all_cons, List.all_cons, hx_dgB r, dgB_dg _ (by omega), dgB_dg _ (by omega)]; rfl

theorem dgB_val {c : UInt8} (h : dgB c = true) : ∃ x, x < 16 ∧ UInt8.ofNat (dg x).toNat = c := by
  unfold dgB at h
  simp only [Bool.or_eq_true, Bool.and_eq_true, decide_eq_true_eq] at h
  rcases h with h | h
  · refine ⟨c.toNat - 48, by omega, u8_ext ?_⟩
    unfold dg
    rw [if_pos (by omega), Int.toNat_natCast, UInt8.toNat_ofNat']
    omega
  · refine ⟨c.toNat - 87, by omega, u8_ext ?_⟩
    unfold dg
    rw [if_neg (by omega), Int.toNat_natCast, UInt8.toNat_ofNat']
    omega

theorem dgB_hx : ∀ (m : Nat) (l : List UInt8), l.length = 2 * m → l.all dgB = true → ∃ o, o.length = m ∧ hx o = l
  | 0, l, hl, _ => ⟨[], rfl, by rw [List.length_eq_zero_iff.1 (by omega : l.length = 0)]; rfl⟩
  | m + 1, [], hl, _ => by simp at hl
  | m + 1, [a], hl, _ => by simp at hl; omega
  | m + 1, a :: b :: r, hl, h => by
    rw [List.all_cons, List.all_cons, Bool.and_eq_true, Bool.and_eq_true] at h
    obtain ⟨o, ho, he⟩ := dgB_hx m r (by simp at hl; omega) h.2.2
    obtain ⟨x, hx1, hx2⟩ := dgB_val h.1
    obtain ⟨y, hy1, hy2⟩ := dgB_val h.2.1
    refine ⟨UInt8.ofNat (16 * x + y) :: o, by simp [ho], ?_⟩
    have e : (UInt8.ofNat (16 * x + y)).toNat = 16 * x + y := by rw [UInt8.toNat_ofNat']; omega
    rw [hx_cons, he, e, show (16 * x + y) / 16 = x by omega, show (16 * x + y) % 16 = y by omega, hx2, hy2]

theorem front_list : front.data.toList.length = 8 := rfl

theorem stored_iff (s : ByteArray) : stored s = true ↔ ∃ o : List UInt8, o.length = 40 ∧ s = front ++ str (hx o) := by
  unfold stored
  rw [Bool.and_eq_true, Bool.and_eq_true, decide_eq_true_iff, decide_eq_true_iff]
  constructor
  · rintro ⟨⟨h1, h2⟩, h3⟩
    have hl : s.data.toList.length = 88 := h1
    obtain ⟨o, ho, he⟩ := dgB_hx 40 _ (by rw [ext_list, List.length_drop, List.length_take]; omega) h3
    refine ⟨o, ho, bytes_ext ?_⟩
    rw [app_list, str_data, he, ← h2, ext_list, ext_list, List.drop_zero, List.take_of_length_le (by omega : s.data.toList.length ≤ 88), List.take_append_drop]
  · rintro ⟨o, ho, rfl⟩
    have hl := hx_length o
    refine ⟨⟨?_, bytes_ext ?_⟩, ?_⟩
    · show (front ++ str (hx o)).data.toList.length = 88
      rw [app_list, str_data, List.length_append, front_list]; omega
    · rw [ext_list, app_list, List.drop_zero]
      exact List.take_left' front_list
    · have e : ((front ++ str (hx o)).extract 8 88).data.toList = hx o := by
        rw [ext_list, app_list, str_data, List.take_of_length_le (by rw [List.length_append, front_list]; omega)]
        exact List.drop_left' front_list
      rw [e]; exact hx_dgB o

theorem tail_list (o : List UInt8) (ho : o.length = 40) : ((front ++ str (hx o)).extract 8 88).data.toList = hx o := by
  have hl := hx_length o
  rw [ext_list, app_list, str_data, List.take_of_length_le (by rw [List.length_append, front_list]; omega)]
  exact List.drop_left' front_list
theorem salt_list (o : List UInt8) (ho : o.length = 40) : ((front ++ str (hx o)).extract 8 24).data.toList = hx (o.take 8) := by
  have hl := hx_length (o.take 8)
  rw [List.length_take] at hl
  have e : hx o = hx (o.take 8) ++ hx (o.drop 8) := by rw [← hx_append, List.take_append_drop]
  rw [ext_list, app_list, str_data, e, ← List.append_assoc, List.take_left' (by rw [List.length_append, front_list]; omega)]
  exact List.drop_left' front_list

theorem gn_take (l : List UInt8) (n : Nat) : ∀ k, k ≤ n → gn (l.take n) 0 k = gn l 0 k
  | 0, _ => rfl
  | k + 1, h => by
    simp only [gn]
    rw [gn_take l n k (by omega)]
    congr 2
    simp only [List.getD, Nat.zero_add]
    rw [List.getElem?_take_of_lt (by omega)]

/-- A stored password's salt. -/
def saltN (s : ByteArray) : Nat := gn (unhex (s.extract 8 88).data.toList).1 0 8

theorem stored_salt (s : ByteArray) (h : stored s = true) : ∃ o : List UInt8, o.length = 8 ∧ unhex (s.extract 8 24).data.toList = (o, true) ∧ gn o 0 8 = saltN s := by
  obtain ⟨o, ho, rfl⟩ := (stored_iff s).1 h
  refine ⟨o.take 8, by rw [List.length_take]; omega, by rw [salt_list o ho, hx_unhex], ?_⟩
  unfold saltN
  rw [tail_list o ho, hx_unhex, gn_take _ _ _ (Nat.le_refl _)]

/-- What is kept of a password. -/
def mk (n : Nat) (p : ByteArray) : ByteArray := (front ++ strOfNums (hex (strOfNums (be n 8)).data.toList)) ++ strOfNums (hex (str (sha ((strOfNums (be n 8)).data.toList ++ p.data.toList))).data.toList)

theorem mk_eq (n : Nat) (p : ByteArray) : mk n p = front ++ str (hx ((strOfNums (be n 8)).data.toList ++ sha ((strOfNums (be n 8)).data.toList ++ p.data.toList))) := by
  apply bytes_ext
  unfold mk
  rw [app_list, app_list, app_list, hx_append, str_data, str_data, List.append_assoc]; rfl
theorem key_length (n : Nat) : (strOfNums (be n 8)).data.toList.length = 8 := by rw [strOfNums_data, List.length_map, be_length]
theorem mk_stored (n : Nat) (p : ByteArray) : stored (mk n p) = true :=
  (stored_iff _).2 ⟨_, by rw [List.length_append, key_length, sha_length], mk_eq n p⟩
theorem mk_salt (n : Nat) (p : ByteArray) (h : n < 18446744073709551616) : saltN (mk n p) = n := by
  unfold saltN
  rw [mk_eq, tail_list _ (by rw [List.length_append, key_length, sha_length]), hx_unhex]
  have := gn_be [] (sha ((strOfNums (be n 8)).data.toList ++ p.data.toList)) n 8 8 (Nat.le_refl _)
  rw [List.nil_append, Nat.sub_self, Nat.pow_zero, Nat.div_one, Nat.mod_eq_of_lt (by simpa using h)] at this
  exact this
theorem mk_inj (n : Nat) (p q : ByteArray) (h : mk n p = mk n q) : sha ((strOfNums (be n 8)).data.toList ++ p.data.toList) = sha ((strOfNums (be n 8)).data.toList ++ q.data.toList) := by
  rw [mk_eq, mk_eq] at h
  have h2 := congrArg (fun s => s.data.toList) h
  simp only [app_list, str_data] at h2
  exact List.append_cancel_left (hx_inj (List.append_cancel_left h2))
theorem mk_size (n : Nat) (p : ByteArray) : (mk n p).size = 88 := by
  have := mk_stored n p
  unfold stored at this
  simp only [Bool.and_eq_true, decide_eq_true_eq] at this
  exact this.1.1

end Go.Proofs.YtpdionmecflibaaDoor.Mt
