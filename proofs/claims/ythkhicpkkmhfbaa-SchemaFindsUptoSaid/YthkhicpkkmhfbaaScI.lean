/-
  Places in a slice; the names of a chain.
-/
import Derived.Test.YthkhicpkkmhfbaaScH
namespace Go.Proofs.Ythkhicpkkmhfbaa
open Go.RowKit

/-- Places in a slice. -/
def IsNats (w : World) (v : Value) (l : List Nat) : Prop := ∃ a cap, v = .slice a l.length cap ∧ l.length ≤ cap ∧ Hid (∀ j (hj : j < l.length), ∃ b off, a = some ⟨b, off, none⟩ ∧ b < w.heap.size ∧ w.cell? ⟨b, off + j, none⟩ = some (.int .i64 (l[j] : Nat)))
theorem IsNats.below {w u : World} {v : Value} {l : List Nat} (h : IsNats w v l) (hb : Below w.heap.size w u) : IsNats u v l := by
  obtain ⟨a, cap, e, hc, h⟩ := h
  refine ⟨a, cap, e, hc, Lib.hid fun j hj => ?_⟩
  obtain ⟨b, off, h0, h1, h2⟩ := h.out j hj
  exact ⟨b, off, h0, Nat.lt_of_lt_of_le h1 hb.size, (hb.cell (p := ⟨b, _, none⟩) h1).trans h2⟩
theorem IsOwn.nats {base : Nat} {w : World} {v : Value} {r : List Nat} (h : IsOwn 3 1 base w v r.length (nats r)) : IsNats w v r := by
  obtain ⟨g, _, hl, h⟩ := h
  rcases h with ⟨h0, rfl⟩ | ⟨off, cap, cur, rfl, h2, h3, h4, h5⟩
  · have : r = [] := List.eq_nil_of_length_eq_zero h0
    subst this
    exact ⟨none, 0, rfl, by simp, Lib.hid fun j hj => absurd hj (by simp)⟩
  · refine ⟨_, cap, rfl, h3, Lib.hid fun j hj => ⟨g, off, rfl, lt_of_block h2, ?_⟩⟩
    rw [cell_of_row w g _ cur 3 (0, 0) h2, h5 j (by simpa [Ythkhicpkkmhfbaa.nats] using hj)]
    simp [Ythkhicpkkmhfbaa.nats]
/-- The cells of names. -/
def nms (r : List (List UInt8)) : List Value := r.map fun n => .string (Mt.str n)
theorem Try.infoStr13 : (Try.prog.info? 9).map (fun i => (i.zero, i.size, i.bytes)) = some (some (.string ByteArray.empty), 1, 16) := by kernel_rfl
theorem nms_one (r : List (List UInt8)) : ∀ u ∈ nms r, u.oneCell' = true := by
  intro u hu; simp only [nms, List.mem_map] at hu; obtain ⟨x, _, rfl⟩ := hu; rfl
theorem IsOwn.nms {base : Nat} {w : World} {v : Value} {r : List (List UInt8)} (h : IsOwn 9 1 base w v r.length (nms r)) : IsNms w v r := by
  obtain ⟨g, _, hl, h⟩ := h
  rcases h with ⟨h0, rfl⟩ | ⟨off, cap, cur, rfl, h2, h3, h4, h5⟩
  · have : r = [] := List.eq_nil_of_length_eq_zero h0
    subst this
    exact ⟨none, 0, rfl, by simp, Lib.hid fun j hj => absurd hj (by simp)⟩
  · refine ⟨_, cap, rfl, h3, Lib.hid fun j hj => ⟨g, off, rfl, lt_of_block h2, ?_⟩⟩
    rw [cell_of_row w g _ cur 9 (0, 0) h2, h5 j (by simpa [Ythkhicpkkmhfbaa.nms] using hj)]
    simp [Ythkhicpkkmhfbaa.nms]
/-- The names of a chain. -/
def Mt.chainN (s : Mt.Sc) (n : List UInt8) : List (List UInt8) := (Mt.chain s n).map fun (i : Nat) => (Mt.clI s (i : Int)).name
theorem Mt.chain_lt (s : Mt.Sc) (n : List UInt8) : ∀ j ∈ Mt.chain s n, j < s.classes.length := Mt.chainF_lt s _ _ (Mt.clAt_range s n).2
theorem Mt.chainF_len (s : Mt.Sc) : ∀ (n : Nat) (i : Int), (Mt.chainF s n i).length ≤ n
  | 0, i => by simp [Mt.chainF]
  | n + 1, i => by
    unfold Mt.chainF
    split
    · simp
    · have := Mt.chainF_len s n (Mt.supAt s i.toNat)
      rw [List.length_cons]; omega
theorem Mt.chain_len (s : Mt.Sc) (n : List UInt8) : (Mt.chain s n).length ≤ s.classes.length := Mt.chainF_len s _ _
/-- The name of a class. -/
theorem name_at {tv cv : Value} {s : Mt.Sc} {w : World} (h : IsSc w tv cv s) {a : Option Addr} {n cap : Nat} (hv : cv = .slice a n cap) (j : Nat) (hj : j < s.classes.length) :
    ∃ b off, a = some ⟨b, off, none⟩ ∧ b < w.heap.size ∧ Hid (∀ u, Below w.heap.size w u → u.cell? ⟨b, off + j * 5, none⟩ = some (.string (Mt.str (Mt.clI s (j : Int)).name)) ∧ u.cell? ⟨b, off + j * 5 + 2, none⟩ = some (.int .i64 (Mt.clI s (j : Int)).kind)) := by
  obtain ⟨a', cap', hv', hcap, hcell⟩ := h.classes
  obtain ⟨b', off', m, y, e0, hbl, h0, h1, h2, h3, h4, h5, h6⟩ := hcell.out j hj
  rw [hv'] at hv
  cases hv
  rw [Mt.clI_get hj]
  exact ⟨b', off', e0, hbl, Lib.hid fun u hu => ⟨(hu.cell (p := ⟨b', _, none⟩) hbl).trans h0, (hu.cell (p := ⟨b', _, none⟩) hbl).trans h2⟩⟩
set_option maxRecDepth 100000 in
set_option maxHeartbeats 1000000 in
theorem chainN_any {tv cv : Value} {s : Mt.Sc} (n : List UInt8) (hn : n.length ≤ 140737488351232) {w : World} (h : IsSc w tv cv s) :
    Calls Try.prog 19 #[.agg #[tv, cv], .string (Mt.str n)] w fun e w' => ∃ v, e = .returned v ∧ IsOwn 9 1 w.heap.size w' v (Mt.chainN s n).length (nms (Mt.chainN s n)) ∧ Below w.heap.size w w' := by
  have HK := Lib.hid (fun (u : World) (hb : Below w.heap.size w u) => chain_any n hn (h.below hb))
  have hlen := h.clen
  obtain ⟨i0, hi, hz0, hz1, hz2⟩ := info_parts Try.infoStr13
  have HI := Lib.hid (And.intro hi (And.intro hz0 (And.intro hz1 hz2)))
  obtain ⟨ta, tcap, hv1, -, -⟩ := h.types
  obtain ⟨ca, ccap, hv2, -, -⟩ := h.classes
  have HNA := Lib.hid (fun (j : Nat) (hj : j < s.classes.length) => name_at h hv2 j hj)
  have HLT := Lib.hid (Mt.chain_lt s n)
  have hll := Mt.chain_len s n
  obtain ⟨L, hL⟩ : ∃ L, Mt.chain s n = L := ⟨_, rfl⟩
  have hN : Mt.chainN s n = L.map fun (i : Nat) => (Mt.clI s (i : Int)).name := by unfold Mt.chainN; rw [hL]
  rw [hN]
  rw [hL] at HK HLT hll
  subst hv1 hv2
  obtain ⟨w1, hw1⟩ : ∃ w1, w.alloc (.cells #[.slice ta s.types.length tcap, .slice ca s.classes.length ccap] 25) = w1 := ⟨_, rfl⟩
  have HA1 : Hid (Below w.heap.size w w1) := Lib.hid (by rw [← hw1]; exact (Below.refl _ w).alloc (Nat.le_refl _) _)
  have hs1 : w1.heap.size = w.heap.size + 1 := by rw [← hw1]; simp
  have hx1 : w1.heap[w.heap.size]? = some (.cells #[.slice ta s.types.length tcap, .slice ca s.classes.length ccap] 25) := by rw [← hw1]; exact heap_alloc_new w _
  have HP : Hid (∀ u, Below (w.heap.size + 1) w1 u → u.cell? ⟨w.heap.size, 0, none⟩ = some (.slice ta s.types.length tcap) ∧ u.cell? ⟨w.heap.size, 1, none⟩ = some (.slice ca s.classes.length ccap)) := Lib.hid (fun u hu => by
    have r1 := (hu.block w.heap.size (by omega)).trans hx1
    exact ⟨by rw [cell_of_row _ _ _ _ _ _ r1]; rfl, by rw [cell_of_row _ _ _ _ _ _ r1]; rfl⟩)
  obtain ⟨tn, htn⟩ : ∃ tn, s.types.length = tn := ⟨_, rfl⟩
  obtain ⟨cn, hcn⟩ : ∃ cn, s.classes.length = cn := ⟨_, rfl⟩
  rw [htn, hcn] at hw1 HP HK
  rw [hcn] at HNA HLT hll hlen
  rw [htn, hcn]
  obtain ⟨p0, p1⟩ := HP.out w1 (Below.refl _ _)
  generalize Mt.str n = N at *
  have HNIL : Hid (nms ((L.take 0).map fun (i : Nat) => (Mt.clI s (i : Int)).name) = []) := Lib.hid (by rw [List.take_zero]; rfl)
  clear h hn hi hz0 hz1 hz2 hx1 hN hL htn hcn
  go_enter Try.func19, Try.ntmps19
  go_wp2_with fail
  refine (HK.out _ HA1.out).mono ?_
  rintro e w2 ⟨v, rfl, hown, hb⟩
  obtain ⟨la, lcap, rfl, hlc, HL⟩ := IsOwn.nats hown
  have HB2 := Lib.hid (HA1.out.trans (hb.mono HA1.out.size))
  have HW2 := Lib.hid (show Below (w.heap.size + 1) w1 w2 from hb.mono (by omega))
  obtain ⟨ln, hln⟩ : ∃ ln, L.length = ln := ⟨_, rfl⟩
  rw [hln] at hlc hll ⊢
  have HLN := Lib.hid hln
  clear hb hown p0 p1 HK hln
  go_wp2_with fail
  have HML : Hid ((L.map fun (i : Nat) => (Mt.clI s (i : Int)).name).length = ln) := Lib.hid (by rw [List.length_map]; exact HLN.out)
  go_loopw [13, 5] (fun iv ov wr => ∃ (i : Nat) (a2 : Option Addr) (c2 : Nat), i ≤ ln ∧ iv = .int .i64 (i : Int) ∧ ov = .slice a2 i c2 ∧ Hid (IsOwn 9 1 w2.heap.size wr (.slice a2 i c2) i (nms ((L.take i).map fun (i : Nat) => (Mt.clI s (i : Int)).name))) ∧ Hid (Below w2.heap.size w2 wr)) (fun iv _ _ => ln - (intOf iv).toNat)
  case atStart =>
    refine ⟨0, none, 0, Nat.zero_le _, rfl, rfl, Lib.hid ?_, Lib.hid (Below.refl _ _)⟩
    rw [HNIL.out]
    exact IsOwn.nil _ _ _ _
  case round =>
    obtain ⟨i, a2, c2, hi, rfl, rfl, HO, HW⟩ := hrel
    have HB := Lib.hid (HB2.out.trans (HW.out.mono HB2.out.size))
    have HWa := Lib.hid (HW2.out.trans (HW.out.mono (show w.heap.size + 1 ≤ w2.heap.size by have := HW2.out.size; omega)))
    by_cases hlt : i < ln
    · have hil : i < L.length := by rw [HLN.out]; exact hlt
      obtain ⟨b, off, e0, hbl, hc⟩ := HL.out i hil
      have x0 := (HW.out.cell (p := ⟨b, off + i, none⟩) hbl).trans hc
      obtain ⟨j, hj⟩ : ∃ j, L[i] = j := ⟨_, rfl⟩
      have hjc := HLT.out _ (List.getElem_mem hil)
      rw [hj] at x0 hjc
      obtain ⟨b2, off2, e2, hb2, HN2⟩ := HNA.out j hjc
      obtain ⟨n0, -⟩ := HN2.out wr HB.out
      obtain ⟨NM, hNM⟩ : ∃ NM, Mt.str (Mt.clI s (j : Int)).name = NM := ⟨_, rfl⟩
      rw [hNM] at n0
      obtain ⟨p0, p1⟩ := HP.out wr HWa.out
      have HTK : Hid ((L.take (i + 1)).map (fun (i : Nat) => (Mt.clI s (i : Int)).name) = (L.take i).map (fun (i : Nat) => (Mt.clI s (i : Int)).name) ++ [(Mt.clI s (j : Int)).name]) := Lib.hid (by
        rw [List.take_succ_eq_append_getElem hil, List.map_append, hj]; rfl)
      obtain ⟨a3, c3, w5, hrun, hown, hb5⟩ := own_push (T := 29) (tx := 29) Try.underlying29 Try.underlying29 HI.out.1 HI.out.2.1 HI.out.2.2.1 HI.out.2.2.2 rfl HO.out HW.out.size (nms_one _) #[.string NM] rfl (by simp [Value.oneCell']) (by omega) (by omega)
      have HO5 : Hid (IsOwn 9 1 w2.heap.size w5 (.slice a3 (i + 1) c3) (i + 1) (nms ((L.take (i + 1)).map fun (i : Nat) => (Mt.clI s (i : Int)).name))) := Lib.hid (by
        rw [HTK.out]
        have e : nms ((L.take i).map (fun (i : Nat) => (Mt.clI s (i : Int)).name) ++ [(Mt.clI s (j : Int)).name]) = nms ((L.take i).map fun (i : Nat) => (Mt.clI s (i : Int)).name) ++ (#[.string NM] : Array Value).toList := by rw [← hNM]; simp [nms]
        rw [e]; exact hown)
      have HW5 := Lib.hid (HW.out.trans hb5)
      have d1 : decide ((i : Int) < (ln : Int)) = true := decide_eq_true (by omega)
      have d2 : decide (i < ln) = true := decide_eq_true hlt
      have i0 : (0 : Int) ≤ (i : Int) := by omega
      have j0 : (0 : Int) ≤ (j : Int) := by omega
      have j1 : (j : Int) < (cn : Int) := by omega
      subst e0 e2
      clear hbl hc hj hNM hown hb5 hil hb2
      go_wp2_with (refine wpList_append_run rfl _ _ 29 29 rfl _ _ rfl rfl hrun ?_)
      go_roundw
      case rel => exact ⟨i + 1, a3, c3, by omega, by go_num, by rfl, HO5, HW5⟩
      case measure => simp [intOf]; omega
    · obtain rfl : i = ln := by omega
      have d1 : decide ((i : Int) < (i : Int)) = false := decide_eq_false (by omega)
      have d2 : decide (i < i) = false := decide_eq_false (by omega)
      have HFIN : Hid (IsOwn 9 1 w.heap.size wr (.slice a2 i c2) (L.map fun (i : Nat) => (Mt.clI s (i : Int)).name).length (nms (L.map fun (i : Nat) => (Mt.clI s (i : Int)).name))) := Lib.hid (by
        rw [HML.out]
        have ht : L.take i = L := by rw [← HLN.out]; exact List.take_length
        have := HO.out
        rw [ht] at this
        exact this.mono HB2.out.size)
      go_wp2_with fail
      go_ret
      exact ⟨_, rfl, HFIN.out, HB.out⟩
end Go.Proofs.Ythkhicpkkmhfbaa
