/-
  What the document's Salt comes to.
-/
import Derived.Test.YtpdionmecflibaaDoorPass
import Derived.Test.YtpdionmecflibaaDoorRUnhex
namespace Go.Proofs.YtpdionmecflibaaDoor
open Go.RowKit

theorem Mt.unhex_len {l o : List UInt8} {b : Bool} (h : Mt.unhex l = (o, b)) : 2 * o.length ≤ l.length ∧ (b = true → l.length = 2 * o.length) := by
  unfold Mt.unhex at h
  split at h
  · split at h
    · rename_i h0 o' ho
      cases h
      have := Mt.uh_length ho
      exact ⟨by omega, fun _ => by omega⟩
    · cases h; exact ⟨by simp, fun h => by cases h⟩
  · cases h; exact ⟨by simp, fun h => by cases h⟩

theorem rsalt_size (s : ByteArray) (w : World) (h : s.size ≠ 88) :
    Calls Tryd.prog 34 #[.string s] w fun e w' => e = .returned (.tuple #[.int .u64 0, .bool false]) ∧ Below w.heap.size w w' := by
  have hd : ((s.size : Int) != 88) = true := by simp; omega
  clear h
  go_enter Tryd.func34, Tryd.ntmps34
  go_wp2_with fail
  go_ret2
  exact ⟨rfl, Below.refl _ _⟩

set_option maxRecDepth 100000 in
theorem rsalt_any (s : ByteArray) (w : World) (h : s.size = 88) :
    Calls Tryd.prog 34 #[.string s] w fun e w' => e = .returned (.tuple #[.int .u64 (if Mt.stored s then (Mt.saltN s : Int) else 0), .bool (Mt.stored s)]) ∧ Below w.heap.size w w' := by
  obtain ⟨t, hte⟩ : ∃ t, s.extract 8 s.size = t := ⟨_, rfl⟩
  have ht : s.extract 8 88 = t := by rw [← hte, h]
  have hts : t.size = 80 := by rw [← ht, ByteArray.size_extract]; omega
  have hd : ((s.size : Int) != 88) = false := by simp; omega
  have hi : (s.size : Int) = 88 := by omega
  have hle : (8 : Int) ≤ (s.size : Int) := by omega
  have HU := Lib.hid (fun u => runhex_any t u (by omega))
  obtain ⟨o, b, hu⟩ : ∃ o b, Mt.unhex t.data.toList = (o, b) := ⟨_, _, rfl⟩
  have hlen := Mt.unhex_len hu
  have htl : t.data.toList.length = 80 := hts
  rw [hu] at HU
  dsimp only at HU
  cases b with
  | false =>
    have hst : Mt.stored s = false := by
      cases hc : Mt.stored s with
      | false => rfl
      | true =>
        obtain ⟨q, hq, rfl⟩ := (Mt.stored_iff s).1 hc
        rw [← ht, Mt.tail_list q hq, Mt.hx_unhex] at hu
        cases hu
    rw [hst]
    clear hst hu hlen htl hts ht h
    go_enter Tryd.func34, Tryd.ntmps34
    go_wp2_with fail
    refine (HU.out _).mono ?_
    rintro x w2 ⟨rfl, hb⟩
    have HB := Lib.hid hb
    clear hb
    go_wp2_with fail
    go_ret2
    exact ⟨rfl, HB.out⟩
  | true =>
    have ho : o.length = 40 := by have := hlen.2 rfl; omega
    obtain ⟨k, hk⟩ : ∃ k, Mt.str o = k := ⟨_, rfl⟩
    have hks : k.size = 40 := by rw [← hk, Mt.str_size]; exact ho
    have hkl : k.data.toList = o := by rw [← hk]; rfl
    rw [hk] at HU
    have HX := Lib.hid (fun u => rhex_any k u (by omega))
    rw [hkl] at HX
    obtain ⟨A, hA⟩ : ∃ A, strOfNums (Mt.hex o) = A := ⟨_, rfl⟩
    rw [hA] at HX
    have hAz : A.size = 80 := by rw [← hA]; show (strOfNums (Mt.hex o)).data.toList.length = 80; rw [Mt.hexs_length, ho]
    have hadd := fun wx => run_string_add_sum (w := wx) (P := Tryd.prog) ⟨#[123, 83, 65, 76, 84, 69, 68, 125]⟩ A (by rw [hAz]; decide)
    have hiff : decide ((⟨#[123, 83, 65, 76, 84, 69, 68, 125]⟩ : ByteArray) ++ A = s) = Mt.stored s := by
      rw [Bool.eq_iff_iff, decide_eq_true_iff, Mt.stored_iff]
      constructor
      · intro h2
        exact ⟨o, ho, by rw [← h2, ← hA]; rfl⟩
      · rintro ⟨q, hq, rfl⟩
        rw [← ht, Mt.tail_list q hq, Mt.hx_unhex] at hu
        cases hu
        rw [← hA]; rfl
    have HE := Lib.hid (show (((⟨#[123, 83, 65, 76, 84, 69, 68, 125]⟩ : ByteArray) ++ A).toList == s.toList) = Mt.stored s by rw [beq_bytes, hiff])
    have HG := Lib.hid (fun u => rget_yes k 0 8 u (by omega) (by decide) (by decide) (by omega))
    have hsn : Mt.gn o 0 8 = Mt.saltN s := by unfold Mt.saltN; rw [ht, hu]
    rw [hkl, hsn] at HG
    obtain ⟨C, hC⟩ : ∃ C, (⟨#[123, 83, 65, 76, 84, 69, 68, 125]⟩ : ByteArray) ++ A = C := ⟨_, rfl⟩
    rw [hC] at HE
    have hadd2 := fun wx => hadd wx
    rw [hC] at hadd2
    clear hiff hA hAz hsn hkl hks hk ho hu hlen htl hts ht h hadd
    have hne : ∀ b, Mt.stored s = b → (!(C.toList == s.toList)) = !b := fun b h => by rw [HE.out, h]
    cases hst : Mt.stored s with
    | false =>
      have hq : (C.toList == s.toList) = false := by rw [HE.out, hst]
      clear hne hst HE
      go_enter Tryd.func34, Tryd.ntmps34
      go_wp2_with fail
      refine (HU.out _).mono ?_
      rintro x w2 ⟨rfl, hb⟩
      have HB := Lib.hid hb
      clear hb
      go_wp2_with fail
      refine (HX.out _).mono ?_
      rintro x w3 ⟨rfl, hb⟩
      have HB2 := Lib.hid (HB.out.trans (hb.mono HB.out.size))
      clear hb HB
      go_wp2_with fail
      go_ret2
      exact ⟨rfl, HB2.out⟩
    | true =>
      have hq : (C.toList == s.toList) = true := by rw [HE.out, hst]
      clear hne hst HE
      go_enter Tryd.func34, Tryd.ntmps34
      go_wp2_with fail
      refine (HU.out _).mono ?_
      rintro x w2 ⟨rfl, hb⟩
      have HB := Lib.hid hb
      clear hb
      go_wp2_with fail
      refine (HX.out _).mono ?_
      rintro x w3 ⟨rfl, hb⟩
      have HB2 := Lib.hid (HB.out.trans (hb.mono HB.out.size))
      clear hb HB
      go_wp2_with fail
      refine (HG.out _).mono ?_
      rintro x w4 ⟨rfl, rfl⟩
      go_wp2_with fail
      go_ret2
      exact ⟨rfl, HB2.out⟩

end Go.Proofs.YtpdionmecflibaaDoor
