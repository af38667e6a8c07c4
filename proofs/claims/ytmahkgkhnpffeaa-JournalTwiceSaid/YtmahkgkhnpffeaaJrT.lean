/-
  What lay comes to.
-/
import Derived.Test.YtmahkgkhnpffeaaJrN
import Derived.BigRegion
import Derived.Deep.RegionLaw
import Derived.Deep.DeepMust
namespace Go.Proofs.Ytmahkgkhnpffeaa
open Go.RowKit
/-- What the journal holds behind lay: what it should. -/
def LaidJ (_ : List (List UInt8)) (j' c : Mt.Jn) : Prop := j' = c
theorem Mt.become_snd (j n : Mt.Jn) (e : Int) : (j.become n e).2 = e := by
  unfold Mt.Jn.become
  split
  · rename_i h; exact h.symm
  · rfl
section
variable {w u : World} {J B bl bm : Nat} {j : Mt.Jn} {d : Mt.Dk}
theorem JD.become' (h : JD w J B bl bm j d) {n : Mt.Jn} {x : Int} (hn : n.half ≤ 1 ∧ n.head ≤ 1 ∧ n.gen ≤ 4294967296 ∧ n.used ≤ 8192 ∧ n.count ≤ 8192) (hj : IsJ u J B (j.become n x).1) (ho : OnlyS [J] w u) : JD u J B bl bm (j.become n x).1 d := by
  unfold Mt.Jn.become at hj ⊢
  split at hj
  · rename_i hx
    rw [if_pos hx]
    exact h.put hj ho hn.1 hn.2.1 hn.2.2.1 hn.2.2.2.1 hn.2.2.2.2
  · rename_i hx
    rw [if_neg hx]
    exact h.put hj ho h.half h.head h.gen h.used h.count
theorem Mt.holds_needs {j : Mt.Jn} {d : Mt.Dk} {bs : List (List UInt8)} (h : j.holds d bs = true) : Mt.needs bs ≤ j.left d := by
  unfold Mt.Jn.holds at h
  rw [Bool.and_eq_true, decide_eq_true_eq, decide_eq_true_eq] at h
  exact h.2
set_option maxRecDepth 100000 in
set_option maxHeartbeats 1000000 in
theorem lay_any6 (h : JD w J B bl bm j d) {v : Value} {bs : List (List UInt8)} (hv : IsTs w v bs) (hn : bs.length ≤ 8796093022208) (hb : ∀ b ∈ bs, b.length ≤ 1048576) :
    Calls Try.prog 23 #[.pointer (some ⟨J, 0, none⟩), v] w fun e w' => e = .returned (.int .i64 (Mt.layJ d j bs).2.2) ∧ (∃ j', JD w' J B bl bm j' (Mt.layJ d j bs).1 ∧ LaidJ bs j' (Mt.layJ d j bs).2.1) ∧ OnlyS [J, B, bl, bm] w w' := by
  have hwb := (Below.refl w.heap.size w).alloc (Nat.le_refl _) (.cells (jnV B j.next) 55)
  have HO1 := Lib.hid (Below.onlyS (S := [J, B, bl, bm]) hwb (Nat.le_refl _))
  have HJ1 := Lib.hid (h.below hwb)
  have HV1 := Lib.hid (hv.below hwb)
  have HN1 : Hid (IsJ (w.alloc (.cells (jnV B j.next) 55)) w.heap.size B j.next) := Lib.hid (heap_alloc_new w _)
  have HND : Hid (j.next.gen ≤ 4294967296 → JD (w.alloc (.cells (jnV B j.next) 55)) w.heap.size B bl bm j.next d) := Lib.hid (fun hg => ⟨heap_alloc_new w _, (h.below hwb).dk, h.four, by show 1 - j.half ≤ 1; omega, by show 1 - j.head ≤ 1; omega, hg, Nat.zero_le _, Nat.zero_le _⟩)
  have hJN : J ≠ w.heap.size := by have := h.lt.1; omega
  have HJN := Lib.hid hJN
  obtain ⟨c0, c1, c2, c3, c4, c5, c6⟩ := h.jn.cells
  have hgl := h.gen
  have hhl := h.half
  have hkl := h.head
  have H := Lib.hid h
  have HB := Lib.hid hb
  have HNL := Lib.hid hn
  obtain ⟨g', hg'⟩ : ∃ g', j.gen + 1 = g' := ⟨_, rfl⟩
  obtain ⟨h', hh'⟩ : ∃ h', 1 - j.half = h' := ⟨_, rfl⟩
  obtain ⟨k', hk'⟩ : ∃ k', 1 - j.head = k' := ⟨_, rfl⟩
  have v1 : IntKind.u64.wrap ((j.gen : Int) + 1) = (g' : Int) := by rw [show ((j.gen : Int) + 1) = ((j.gen + 1 : Nat) : Int) by omega, Mt.u64_nat _ (by omega), hg']
  have v2 : IntKind.i64.wrap (1 - (j.half : Int)) = (h' : Int) := by rw [IntWalk.i64_in _ (by omega)]; omega
  have v3 : IntKind.i64.wrap (1 - (j.head : Int)) = (k' : Int) := by rw [IntWalk.i64_in _ (by omega)]; omega
  have HJV : Hid (jnV B j.next = #[.pointer (some ⟨B, 0, none⟩), .int .u64 (g' : Int), .int .i64 (h' : Int), .int .i64 (k' : Int), .int .i64 0, .int .i64 0, .bool false]) := Lib.hid (by unfold jnV Mt.Jn.next; rw [← hg', ← hh', ← hk']; rfl)
  have HGE := Lib.hid (show j.next.gen = g' from hg')
  rw [HJV.out] at HO1 HJ1 HV1 HN1 HND
  clear h hv hn hb hwb hg' hh' hk' hJN
  obtain ⟨a0, cp0, rfl, -, -⟩ := HV1.out
  go_enter Try.func23, Try.ntmps23
  go_upto_region 1 with fail
  go_region_held3 (fun w' => w'.cell? ⟨J, 0, none⟩ = some (.pointer (some ⟨B, 0, none⟩)) ∧ w'.cell? ⟨J, 1, none⟩ = some (.int .u64 (j.gen : Int)) ∧ w'.cell? ⟨J, 2, none⟩ = some (.int .i64 (j.half : Int)) ∧ w'.cell? ⟨J, 3, none⟩ = some (.int .i64 (j.head : Int)))
    (first
      | go_keep)
    (first
      | fail)
  have HJ2 := Lib.hid (HJ1.out.below ((Below.refl _ _).drew))
  have HV2 := Lib.hid (HV1.out.below ((Below.refl _ _).drew))
  have HO2 := Lib.hid (HO1.out.drew)
  have HN2 := Lib.hid (IsJ.below HN1.out ((Below.refl _ _).drew))
  have HND2 := Lib.hid (fun hg => (HND.out hg).below ((Below.refl _ _).drew))
  clear c0 c1 c2 c3 c4 c5 c6 HJ1 HV1 HO1 HN1 HND v1 v2 v3
  generalize (w.alloc (.cells #[.pointer (some ⟨B, 0, none⟩), .int .u64 (g' : Int), .int .i64 (h' : Int), .int .i64 (k' : Int), .int .i64 0, .int .i64 0, .bool false] 55)).drew = w2 at *
  have HNS : Hid (w.heap.size = w.heap.size) := Lib.hid rfl
  obtain ⟨N, hN⟩ : ∃ N, w.heap.size = N := ⟨_, rfl⟩
  rw [hN] at HN2 HND2 HJN ⊢
  have HNE := Lib.hid hN
  clear hN
  obtain ⟨n0, n1, n2, n3, n4, n5, n6⟩ := HN2.out.cells
  have hgn : (j.next.gen : Int) = (g' : Int) := by rw [HGE.out]
  rw [hgn] at n1
  clear hgn
  by_cases hg : 4294967295 < g'
  · have d1 : decide (4294967295 < g') = true := decide_eq_true hg
    have d2 : decide ((4294967295 : Int) < (g' : Int)) = true := decide_eq_true (by omega)
    have HR := Lib.hid (show Mt.layJ d j bs = (d, j, 11) by unfold Mt.layJ; rw [if_neg (by rw [HGE.out]; omega)])
    clear hg
    go_wp2_with fail
    go_ret
    rw [HR.out]
    exact ⟨rfl, ⟨j, HJ2.out, rfl⟩, HO2.out⟩
  · have d1 : decide (4294967295 < g') = false := decide_eq_false hg
    have d2 : decide ((4294967295 : Int) < (g' : Int)) = false := decide_eq_false (by omega)
    have hg2 : j.next.gen ≤ 4294967295 := by rw [HGE.out]; omega
    have hnd := HND2.out (by omega)
    have HHO := Lib.hid (holds_any hnd HV2.out HNL.out HB.out)
    have HNDX := Lib.hid hnd
    clear hg hnd HND2
    cases hho : j.next.holds d bs with
    | false =>
      have HR := Lib.hid (show Mt.layJ d j bs = (d, j, 11) by unfold Mt.layJ; rw [if_neg (by rw [hho]; simp)])
      rw [hho] at HHO
      clear hho hg2
      go_wp2_with fail
      refine (HHO.out).mono ?_
      rintro e w3 ⟨rfl, hb3⟩
      have HJ3 := Lib.hid (HJ2.out.below hb3)
      have HO3 := Lib.hid (HO2.out.then hb3)
      clear hb3
      go_wp2_with fail
      go_ret
      rw [HR.out]
      exact ⟨rfl, ⟨j, HJ3.out, rfl⟩, HO3.out⟩
    | true =>
      have HR := Lib.hid (show Mt.layJ d j bs = ((Mt.fillJ d j.next bs).1, j.become (Mt.fillJ d j.next bs).2.1 (Mt.fillJ d j.next bs).2.2) by unfold Mt.layJ; rw [if_pos ⟨hg2, hho⟩])
      have hnl := Mt.holds_needs hho
      have hz := hsize_le H.out
      have hlf : j.next.left d ≤ 4095 := by unfold Mt.Jn.left; omega
      have hlen := Mt.needs_len bs
      have HFI := Lib.hid (fun u (hu : JD u N B bl bm j.next d) (hv : IsTs u (.slice a0 bs.length cp0) bs) => fill_any hu hv (by omega) HB.out (by show 0 + Mt.needs bs ≤ 8192; omega) (by show 0 + bs.length ≤ 8192; omega))
      rw [hho] at HHO
      clear hho hg2 hnl hz hlf hlen
      go_wp2_with fail
      refine (HHO.out).mono ?_
      rintro e w3 ⟨rfl, hb3⟩
      have HJ3 := Lib.hid (HJ2.out.below hb3)
      have HN3 := Lib.hid (HNDX.out.below hb3)
      have HV3 := Lib.hid (HV2.out.below hb3)
      have HO3 := Lib.hid (HO2.out.then hb3)
      have HF3 := Lib.hid (HFI.out w3 HN3.out HV3.out)
      clear hb3 n0 n1 n2 n3 n4 n5 n6
      obtain ⟨n0, n1, n2, n3, n4, n5, n6⟩ := HN3.out.jn.cells
      -- behind fill
      have HAFT : Hid (∀ w4 : World, JD w4 N B bl bm (Mt.fillJ d j.next bs).2.1 (Mt.fillJ d j.next bs).1 → OnlyS [N, B, bl, bm] w3 w4 → JD w4 J B bl bm j (Mt.fillJ d j.next bs).1 ∧ OnlyS [J, B, bl, bm] w w4) := Lib.hid (fun w4 hd4 ho4 => by
        have hne := HJ3.out.neJ
        have hj : IsJ w4 J B j := (ho4.block _ HJ3.out.lt.1 (by have := HJN.out; simp; omega)).trans HJ3.out.jn
        refine ⟨⟨hj, hd4.dk, hd4.four, HJ3.out.half, HJ3.out.head, HJ3.out.gen, HJ3.out.used, HJ3.out.count⟩, ?_⟩
        refine ⟨ho4.os.trans HO3.out.os, ho4.tape.trans HO3.out.tape, ho4.output.trans HO3.out.output, Nat.le_trans HO3.out.size ho4.size, fun k hk hS => ?_⟩
        rw [ho4.block k (Nat.lt_of_lt_of_le hk HO3.out.size) (by have := HNE.out; simp at hS ⊢; omega)]
        exact HO3.out.block k hk hS)
      have HJV2 : Hid (jnV B (Mt.fillJ d j.next bs).2.1 = #[.pointer (some ⟨B, 0, none⟩), .int .u64 ((Mt.fillJ d j.next bs).2.1.gen : Int), .int .i64 ((Mt.fillJ d j.next bs).2.1.half : Int), .int .i64 ((Mt.fillJ d j.next bs).2.1.head : Int), .int .i64 ((Mt.fillJ d j.next bs).2.1.count : Int), .int .i64 ((Mt.fillJ d j.next bs).2.1.used : Int), .bool (Mt.fillJ d j.next bs).2.1.closed]) := Lib.hid rfl
      generalize (Mt.fillJ d j.next bs).2.1 = jF at *
      generalize (Mt.fillJ d j.next bs).1 = dF at *
      generalize (Mt.fillJ d j.next bs).2.2 = E at *
      have HB2 : Hid (∀ u, IsJ u J B j → Calls Try.prog 27 #[.pointer (some ⟨J, 0, none⟩), .agg #[.pointer (some ⟨B, 0, none⟩), .int .u64 (jF.gen : Int), .int .i64 (jF.half : Int), .int .i64 (jF.head : Int), .int .i64 (jF.count : Int), .int .i64 (jF.used : Int), .bool jF.closed], .int .i64 E] u fun e w' => e = .returned (.int .i64 E) ∧ IsJ w' J B (j.become jF E).1 ∧ OnlyS [J] u w') := Lib.hid (fun u hu => by
        have h1 := become_any hu jF E
        rw [HJV2.out, Mt.become_snd] at h1
        exact h1)
      have HPOST : Hid (∀ (w4 w5 : World), JD w4 N B bl bm jF dF → OnlyS [N, B, bl, bm] w3 w4 → IsJ w5 J B (j.become jF E).1 → OnlyS [J] w4 w5 → (∃ j', JD w5 J B bl bm j' (Mt.layJ d j bs).1 ∧ LaidJ bs j' (Mt.layJ d j bs).2.1) ∧ OnlyS [J, B, bl, bm] w w5) := Lib.hid (fun w4 w5 hd4 ho4 hj5 ho5 => by
        obtain ⟨hjd, hon⟩ := HAFT.out w4 hd4 ho4
        refine ⟨⟨(j.become jF E).1, ?_, ?_⟩, hon.trans (ho5.mono (by intro x hx; simp at hx ⊢; omega))⟩
        · rw [HR.out]
          refine hjd.become' ?_ hj5 ho5
          exact ⟨hd4.half, hd4.head, hd4.gen, hd4.used, hd4.count⟩
        · rw [HR.out]
          rfl)
      have HRE := Lib.hid (show (Mt.layJ d j bs).2.2 = E by rw [HR.out]; exact Mt.become_snd _ _ _)
      clear d1 d2 hgl hhl hkl HFI HHO HNDX
      go_wp2_with fail
      refine (HF3.out).mono ?_
      rintro e w4 ⟨rfl, hd4, ho4d⟩
      have ho4 : OnlyS [N, B, bl, bm] w3 w4 := ⟨ho4d.os, ho4d.tape, ho4d.output, ho4d.size, ho4d.block⟩
      have HD4 := Lib.hid hd4
      have HO4 := Lib.hid ho4
      obtain ⟨m0, m1, m2, m3, m4, m5, m6⟩ := hd4.jn.cells
      have HJX := Lib.hid (HAFT.out w4 hd4 ho4).1.jn
      clear hd4 ho4 ho4d
      go_wp2_with fail
      refine (HB2.out _ HJX.out).mono ?_
      rintro e w5 ⟨rfl, hj5, ho5⟩
      have HP := Lib.hid (HPOST.out w4 w5 HD4.out HO4.out hj5 ho5)
      clear hj5 ho5
      go_wp2_with fail
      go_ret
      exact ⟨Mt.ret_int HRE.out.symm, HP.out.1, HP.out.2⟩
end
end Go.Proofs.Ytmahkgkhnpffeaa
