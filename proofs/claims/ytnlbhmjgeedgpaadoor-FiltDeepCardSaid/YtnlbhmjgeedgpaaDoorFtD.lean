/-
  What readAll and piecesOf come to.
-/
import Derived.Test.YtnlbhmjgeedgpaaDoorFtC
set_option linter.unusedVariables false
set_option linter.unusedSimpArgs false
namespace Go.Proofs.YtnlbhmjgeedgpaaDoor
open Go.RowKit

def strC (vs : List (List UInt8)) : List Value := vs.map fun v => .string (Mt.str v)
theorem strC_len (vs : List (List UInt8)) : (strC vs).length = vs.length := by simp [strC]
theorem strC_one (vs : List (List UInt8)) : ∀ u ∈ strC vs, u.oneCell' = true := by
  intro u hu
  obtain ⟨v, _, rfl⟩ := List.mem_map.1 hu
  rfl
theorem strC_append (a b : List (List UInt8)) : strC (a ++ b) = strC a ++ strC b := by simp [strC]
/-- Texts in a row. -/
def HasStrs (w : World) (b off : Nat) (ps : List (List UInt8)) : Prop := b < w.heap.size ∧ ∀ j (hj : j < ps.length), w.cell? ⟨b, off + j, none⟩ = some (.string (Mt.str ps[j]))
theorem HasStrs.below {w u : World} {b off : Nat} {ps : List (List UInt8)} (h : HasStrs w b off ps) (hb : Below w.heap.size w u) : HasStrs u b off ps :=
  ⟨Nat.lt_of_lt_of_le h.1 hb.size, fun j hj => (hb.cell (p := ⟨b, _, none⟩) h.1).trans (h.2 j hj)⟩
def Mt.mapA (vs : List (List UInt8)) : Option (List (List UInt8)) → Option (List (List UInt8))
  | none => none
  | some l => some (vs ++ l)
theorem Mt.mapA_nil (x : Option (List (List UInt8))) : Mt.mapA [] x = x := by cases x <;> rfl
theorem Mt.readAll_step {vs : List (List UInt8)} {t : List UInt8} {r : List (List UInt8)} : Mt.mapA vs (Mt.readAllF (t :: r)) = match Mt.readF t with | none => none | some v => Mt.mapA (vs ++ [v]) (Mt.readAllF r) := by
  simp only [Mt.readAllF]
  cases Mt.readF t with
  | none => rfl
  | some v => cases Mt.readAllF r <;> simp [Mt.mapA]
/-- What readAll answers. -/
def ReadAP (w : World) (R : Option (List (List UInt8))) (e : Ending) (w' : World) : Prop := Below w.heap.size w w' ∧ match R with
  | none => e = .returned (.tuple #[.slice none 0 0, .bool false])
  | some vs => ∃ a c, e = .returned (.tuple #[.slice a vs.length c, .bool true]) ∧ IsOwn 9 1 w.heap.size w' (.slice a vs.length c) vs.length (strC vs)
theorem readAP_none {w w' : World} {R : Option (List (List UInt8))} (hR : R = none) (hb : Below w.heap.size w w') : ReadAP w R (.returned (.tuple #[.slice none 0 0, .bool false])) w' := by
  subst hR; exact ⟨hb, rfl⟩
theorem readAP_some {w w' : World} {R : Option (List (List UInt8))} {vs : List (List UInt8)} {a : Option Addr} {c : Nat} (hR : R = some vs) (hb : Below w.heap.size w w') (ho : IsOwn 9 1 w.heap.size w' (.slice a vs.length c) vs.length (strC vs)) : ReadAP w R (.returned (.tuple #[.slice a vs.length c, .bool true])) w' := by
  subst hR; exact ⟨hb, a, c, rfl, ho⟩
theorem Tryd.infoStr : (Tryd.prog.info? 9).map (fun i => (i.zero, i.size, i.bytes)) = some (some (.string ⟨#[]⟩), 1, 16) := by kernel_rfl
set_option maxRecDepth 100000 in
set_option maxHeartbeats 1000000 in
theorem readAll10_any (ps : List (List UInt8)) (b off cap : Nat) (hn : ps.length ≤ 1000000) (hl : ∀ p ∈ ps, p.length ≤ 1000000) (w : World) (h : HasStrs w b off ps) :
    Calls Tryd.prog 73 #[.slice (some ⟨b, off, none⟩) ps.length cap] w (ReadAP w (Mt.readAllF ps)) := by
  obtain ⟨i0, hi, hz0, hz1, hz2⟩ := info_parts Tryd.infoStr
  have HI := Lib.hid (And.intro hi (And.intro hz0 (And.intro hz1 hz2)))
  clear hi hz0 hz1 hz2
  obtain ⟨R, hR⟩ : ∃ R, Mt.readAllF ps = R := ⟨_, rfl⟩
  have HR0 : Hid (Mt.mapA [] (Mt.readAllF (ps.drop 0)) = R) := Lib.hid (by rw [Mt.mapA_nil]; exact hR)
  rw [hR]
  obtain ⟨n, hnn⟩ : ∃ n, ps.length = n := ⟨_, rfl⟩
  have HN := Lib.hid hnn
  have HS := Lib.hid h
  have HL := Lib.hid hl
  rw [hnn] at hn ⊢
  clear hR hnn h hl
  go_enter Tryd.func73, Tryd.ntmps73
  go_wp2_with fail
  go_loopw [4, 11] (fun v iv wr => ∃ (i : Nat) (vs : List (List UInt8)) (a : Option Addr) (c : Nat), iv = .int .i64 (i : Int) ∧ v = .slice a vs.length c ∧ i ≤ n ∧ vs.length ≤ i ∧ Hid (IsOwn 9 1 w.heap.size wr (.slice a vs.length c) vs.length (strC vs)) ∧ Hid (Mt.mapA vs (Mt.readAllF (ps.drop i)) = R) ∧ Hid (Below w.heap.size w wr))
    (fun _ iv _ => n - (RowKit.intOf iv).toNat)
  case atStart => exact ⟨0, [], none, 0, rfl, rfl, Nat.zero_le _, Nat.zero_le _, Lib.hid (IsOwn.nil _ _ _ _), HR0, Lib.hid (Below.refl _ _)⟩
  case round =>
    obtain ⟨i, vs, a, c, rfl, rfl, hin, hvi, HO, HR, HB⟩ := hrel
    by_cases hlt : i < n
    · have hil : i < ps.length := by rw [HN.out]; exact hlt
      have d1 : decide ((i : Int) < (n : Int)) = true := decide_eq_true (Int.ofNat_lt.2 hlt)
      have d2 : decide (i < n) = true := decide_eq_true hlt
      have hc0 := (HS.out.below HB.out).2 i hil
      have hdr : ps.drop i = ps[i] :: ps.drop (i + 1) := List.drop_eq_getElem_cons hil
      have hpl : ps[i].length ≤ 1000000 := HL.out _ (List.getElem_mem hil)
      obtain ⟨p, hp⟩ : ∃ p, ps[i] = p := ⟨_, rfl⟩
      rw [hp] at hc0 hdr hpl
      have HRV := Lib.hid (fun u => readValue10_any (Mt.str p) u (by rw [Mt.str_size]; omega))
      rw [Mt.str_data] at HRV
      have hst := HR.out
      rw [hdr, Mt.readAll_step] at hst
      cases hv : Mt.readF p with
      | none =>
        rw [hv] at HRV hst
        have HN2 : Hid (R = none) := Lib.hid hst.symm
        unfold readFV at HRV
        clear hv hst hdr hp
        go_wp2_with fail
        refine (HRV.out _).mono ?_
        rintro e w2 ⟨rfl, hb⟩
        have HB2 := Lib.hid (HB.out.trans (hb.mono HB.out.size))
        clear hb
        go_wp2_with fail
        go_ret2
        exact readAP_none HN2.out HB2.out
      | some x =>
        rw [hv] at HRV hst
        have HST := Lib.hid hst
        unfold readFV at HRV
        have HPU := Lib.hid (fun (u : World) (hu : Below wr.heap.size wr u) => own_push (T := 88) (tx := 88) Tryd.underlying88 Tryd.underlying88 HI.out.1 HI.out.2.1 HI.out.2.2.1 HI.out.2.2.2 rfl (HO.out.below hu) (Nat.le_trans HB.out.size hu.size) (strC_one _) #[.string (Mt.str x)] rfl (by simp [Value.oneCell']) (by omega) (by omega))
        clear hv hst hdr hp
        go_wp2_with fail
        refine (HRV.out _).mono ?_
        rintro e w2 ⟨rfl, hb⟩
        obtain ⟨a3, c3, w3, hrun, hown3, hb4⟩ := HPU.out _ hb
        have HO3 := Lib.hid hown3
        have HB3 := Lib.hid ((HB.out.trans (hb.mono HB.out.size)).trans hb4)
        clear hb hown3 hb4
        go_wp2_with (refine wpList_append_run rfl _ _ 88 88 rfl _ _ rfl rfl hrun ?_)
        go_wp2_with fail
        go_roundw
        case rel => exact ⟨i + 1, vs ++ [x], a3, c3, by go_num, by simp, hlt, by simp; omega, by have h := HO3.out; rw [List.length_append, List.length_singleton, strC_append]; exact Lib.hid h, HST, HB3⟩
        case measure => simp [RowKit.intOf]; omega
    · have HR1 : Hid (R = some vs) := Lib.hid (by rw [← HR.out, List.drop_eq_nil_of_le (by have e := HN.out; omega)]; simp [Mt.readAllF, Mt.mapA])
      have d1 : decide ((i : Int) < (n : Int)) = false := decide_eq_false (fun h => hlt (Int.ofNat_lt.1 h))
      have d2 : decide (i < n) = false := decide_eq_false hlt
      go_wp2_with fail
      go_ret2
      exact readAP_some HR1.out HB.out HO.out

/-! ### piecesOf -/
def pcC (p : Mt.Pc) : List Value := [.int .i64 p.1, .string (Mt.str p.2)]
def pcsC (ps : List Mt.Pc) : List Value := ps.flatMap pcC
theorem pcsC_len (ps : List Mt.Pc) : (pcsC ps).length = ps.length * 2 := by
  induction ps with
  | nil => rfl
  | cons p r ih =>
    show (pcC p ++ pcsC r).length = _
    rw [List.length_append, ih, List.length_cons]
    show 2 + _ = _
    omega
theorem pcsC_append (a b : List Mt.Pc) : pcsC (a ++ b) = pcsC a ++ pcsC b := by simp [pcsC]
theorem pcsC_one (ps : List Mt.Pc) : ∀ u ∈ pcsC ps, u.oneCell' = true := by
  intro u hu
  obtain ⟨p, _, hp⟩ := List.mem_flatMap.1 hu
  unfold pcC at hp
  simp at hp
  rcases hp with rfl | rfl <;> rfl
theorem pcsC_get : ∀ (ps : List Mt.Pc) (j : Nat) (hj : j < ps.length), (pcsC ps)[j * 2]? = some (.int .i64 ps[j].1) ∧ (pcsC ps)[j * 2 + 1]? = some (.string (Mt.str ps[j].2))
  | [], j, hj => absurd hj (Nat.not_lt_zero _)
  | p :: r, 0, _ => ⟨rfl, rfl⟩
  | p :: r, j + 1, hj => by
    have h := pcsC_get r j (by simpa using hj)
    have e : (pcsC (p :: r)) = [.int .i64 p.1, .string (Mt.str p.2)] ++ pcsC r := rfl
    rw [e, show (j + 1) * 2 = j * 2 + 2 by omega, List.getElem?_append_right (by simp), List.getElem?_append_right (by simp <;> omega)]
    exact ⟨by simpa using h.1, by simpa using h.2⟩
theorem Tryd.infoPc : (Tryd.prog.info? 53).map (fun i => (i.zero, i.size, i.bytes)) = some (some (.agg #[.int .i64 0, .string ⟨#[]⟩]), 2, 24) := by kernel_rfl
/-- Pieces that a call has put together. -/
theorem IsOwn.isPcs {w : World} {base : Nat} {v : Value} {ps : List Mt.Pc} (h : IsOwn 53 2 base w v ps.length (pcsC ps)) : IsPcs w v ps := by
  obtain ⟨g, hg, hr⟩ := h
  obtain ⟨a, c, rfl⟩ := hr.form
  refine ⟨a, c, rfl, Lib.hid fun j hj => ?_⟩
  obtain ⟨off, cap, he, _, hlt, hcell⟩ := hr.cell (by omega)
  have ha : a = some ⟨g, off, none⟩ := by injection he
  obtain ⟨h1, h2⟩ := pcsC_get ps j hj
  have hl := pcsC_len ps
  have k1 : j * 2 < (pcsC ps).length := by omega
  have k2 : j * 2 + 1 < (pcsC ps).length := by omega
  rw [List.getElem?_eq_getElem k1] at h1
  rw [List.getElem?_eq_getElem k2] at h2
  refine ⟨g, off, ha, hlt, ?_, ?_⟩
  · rw [hcell _ k1]; exact h1
  · rw [show off + j * 2 + 1 = off + (j * 2 + 1) by omega, hcell _ k2]; exact h2
end Go.Proofs.YtnlbhmjgeedgpaaDoor
