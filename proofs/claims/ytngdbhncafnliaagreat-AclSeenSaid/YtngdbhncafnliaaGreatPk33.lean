/-
  Some texts of one proof, one behind the other.
-/
import Derived.Sort.Walk0
import Derived.Deep.CutRange
import Derived.Test.YtngdbhncafnliaaGreatPk2
import Derived.Test.YtngdbhncafnliaaGreatPk3
import Derived.Test.YtngdbhncafnliaaGreatPk7
import Derived.Test.YtngdbhncafnliaaGreatPk28
import Derived.Test.YtngdbhncafnliaaGreatPk31
import Derived.Test.YtngdbhncafnliaaGreatPk32
set_option linter.unusedVariables false
set_option linter.unusedSimpArgs false

/-
  What the document's Norm and Key come to, once plain's contract is there.
-/
namespace Go.Proofs.YtngdbhncafnliaaGreat
open Go.RowKit

/-- What plain is to answer: a name whose RDNs' texts are those of the key. -/
def PlainC : Prop := ∀ (w : World) (v : Value) (d : List (List Mt.Av)), IsDn w v d → Mt.GoodD d →
  Calls Tryz.prog 69 #[v] w fun e w' => ∃ x D, e = .returned x ∧ IsDn w' x D ∧ D.map Mt.speltL = d.map Mt.normL ∧ Mt.GoodD D ∧ Below w.heap.size w w'

theorem Mt.text_of {D d : List (List Mt.Av)} (h : D.map Mt.speltL = d.map Mt.normL) : Mt.textL Mt.speltL D = Mt.textL Mt.normL d := by
  unfold Mt.textL
  have : D.map (fun r => [43].intercalate (Mt.speltL r)) = (D.map Mt.speltL).map (fun l => [43].intercalate l) := by rw [List.map_map]; rfl
  rw [this, h, List.map_map]; rfl

set_option maxRecDepth 100000 in
theorem rnorm_of (HPL : PlainC) {w : World} {v : Value} {d : List (List Mt.Av)} (hv : IsDn w v d) (hs : ∀ r ∈ d, ∀ a ∈ r, a.1.length ≤ 140737488351232) :
    Calls Tryz.prog 53 #[v] w fun e w' => e = .returned (textV (Mt.keyD d)) ∧ Below w.heap.size w w' := by
  have HA := Lib.hid (rprint_any hv hs)
  have HDN := Lib.hid (fun (u : World) (hu : Below w.heap.size w u) => hv.below hu)
  have HP := Lib.hid HPL
  obtain ⟨a, cap, rfl, _⟩ := hv
  unfold Mt.keyD
  clear HPL
  cases hp : Mt.printD d with
  | error e =>
    rw [hp] at HA
    have hei : ((e : Int) != 0) = true := by have := Mt.print_err hp; simp; omega
    unfold textV at HA ⊢
    clear hp
    go_enter Tryz.func53, Tryz.ntmps53
    go_wp2_with fail
    refine (HA.out).mono ?_
    rintro x w2 ⟨rfl, hb⟩
    have HB := Lib.hid hb
    clear hb
    go_wp2_with fail
    go_ret2
    exact ⟨rfl, HB.out⟩
  | ok t =>
    rw [hp] at HA
    have hg := Mt.ask_good (Mt.print_good hp).1
    have HW := Lib.hid (fun (u : World) (hu : Below w.heap.size w u) => HP.out u _ d (HDN.out u hu) hg)
    unfold textV at HA ⊢
    clear hp hg
    go_enter Tryz.func53, Tryz.ntmps53
    go_wp2_with fail
    refine (HA.out).mono ?_
    rintro x w2 ⟨rfl, hb⟩
    have HW2 := Lib.hid (HW.out _ hb)
    have HB := Lib.hid hb
    clear hb
    go_wp2_with fail
    refine (HW2.out).mono ?_
    rintro e w3 ⟨x, D, rfl, hdn, hte, hgd, hb⟩
    have HT := Lib.hid (rtext_any hdn hgd)
    rw [Mt.text_of hte] at HT
    obtain ⟨xa, xc, rfl, _⟩ := hdn
    have HB3 := Lib.hid (HB.out.trans (hb.mono HB.out.size))
    clear hb hte hgd
    go_wp2_with fail
    refine (HT.out).mono ?_
    rintro e w4 ⟨rfl, hb⟩
    have HB4 := Lib.hid (HB3.out.trans (hb.mono HB3.out.size))
    clear hb
    go_wp2_with fail
    go_ret2
    exact ⟨rfl, HB4.out⟩

end Go.Proofs.YtngdbhncafnliaaGreat

/-
  What the document's plain comes to: parts of it.
-/
namespace Go.Proofs.YtngdbhncafnliaaGreat
open Go.RowKit

/-- A part of a slice of types and values, behind one of the call's own. -/
theorem own_cat {base : Nat} {w : World} {v : Value} {l1 : List Mt.Av} (h : IsOwn 87 2 base w v l1.length (avs l1)) (hbase : base ≤ w.heap.size) (x : Value) (l2 : List Mt.Av) (src : Src Tryz.prog 2 89 x l2.length (avs l2) w) (hn : l1.length + l2.length ≤ 1000) :
    ∃ a' c' w', (∀ ty, (Builtin.append_ #[89, 89] ty #[v, x]).run Tryz.prog w = .ok (.slice a' (l1.length + l2.length) c') w') ∧ IsOwn 87 2 base w' (.slice a' (l1.length + l2.length) c') (l1 ++ l2).length (avs (l1 ++ l2)) ∧ Below base w w' := by
  obtain ⟨i0, hi, hz0, hz1, hz2⟩ := info_parts Tryz.infoAva
  obtain ⟨g, hg, h⟩ := h
  obtain ⟨v', w', g', hrun, hrw, hg', ho⟩ := rw_append (T := 89) (tx := 89) Tryz.underlying89 hi hz0 hz1 hz2 rfl h (avs_one _) x l2.length (avs l2) (by rw [hz1]; exact src) (by omega) (by omega)
  obtain ⟨a', c', rfl⟩ := hrw.form
  refine ⟨a', c', w', hrun, ⟨g', ?_, by rw [List.length_append, avs_append]; exact hrw⟩, ho.toBelow (by simpa using hg) hbase⟩
  rcases hg' with rfl | rfl
  · exact hg
  · exact hbase
theorem avs_drop : ∀ (l : List Mt.Av) (n : Nat), avs (l.drop n) = (avs l).drop (n * 2)
  | l, 0 => by simp
  | [], n + 1 => by simp [avs]
  | a :: l, n + 1 => by
    have e : avs (a :: l) = .string (Mt.str a.1) :: .string (Mt.str a.2) :: avs l := rfl
    rw [List.drop_succ_cons, avs_drop l n, e, show (n + 1) * 2 = n * 2 + 2 by omega]; rfl
theorem avs_take : ∀ (l : List Mt.Av) (n : Nat), avs (l.take n) = (avs l).take (n * 2)
  | l, 0 => by simp [avs]
  | [], n + 1 => by simp [avs]
  | a :: l, n + 1 => by
    have e : ∀ r : List Mt.Av, avs (a :: r) = .string (Mt.str a.1) :: .string (Mt.str a.2) :: avs r := fun _ => rfl
    rw [List.take_succ_cons, e, avs_take l n, e, show (n + 1) * 2 = n * 2 + 2 by omega]; rfl
theorem avs_cell {w : World} {b off : Nat} {l : List Mt.Av} (h : ∀ j (hj : j < l.length), w.cell? ⟨b, off + j * 2, none⟩ = some (.string (Mt.str l[j].1)) ∧ w.cell? ⟨b, off + j * 2 + 1, none⟩ = some (.string (Mt.str l[j].2))) (i : Nat) (u : Value) (hu : (avs l)[i]? = some u) : w.cell? ⟨b, off + i, none⟩ = some u := by
  have hi : i < (avs l).length := by
    rcases Nat.lt_or_ge i (avs l).length with h | h
    · exact h
    · rw [List.getElem?_eq_none h] at hu; cases hu
  rw [avs_length] at hi
  have hj : i / 2 < l.length := by omega
  have hg := avs_get l (i / 2) hj
  have hc := h (i / 2) hj
  rcases Nat.mod_two_eq_zero_or_one i with hm | hm
  · have e : i / 2 * 2 = i := by omega
    rw [e] at hg hc
    rw [hg.1] at hu; cases hu; exact hc.1
  · have e : i / 2 * 2 + 1 = i := by omega
    rw [e] at hg
    rw [Nat.add_assoc, e] at hc
    rw [hg.2] at hu; cases hu; exact hc.2
/-- The first ones, and the rest, of a slice as a source. -/
theorem src_take {w : World} {b off : Nat} {l : List Mt.Av} (h : ∀ j (hj : j < l.length), w.cell? ⟨b, off + j * 2, none⟩ = some (.string (Mt.str l[j].1)) ∧ w.cell? ⟨b, off + j * 2 + 1, none⟩ = some (.string (Mt.str l[j].2))) (n c : Nat) (hn : n ≤ l.length) :
    Src Tryz.prog 2 89 (.slice (some ⟨b, off, none⟩) n c) (l.take n).length (avs (l.take n)) w := by
  have hl : (l.take n).length = n := by rw [List.length_take]; omega
  rw [hl]
  exact Src.ofSlice w Tryz.underlying89 ⟨b, off, none⟩ n c _ (by rw [avs_length, hl]) (fun j u hu => by
    rw [add_off]
    rw [avs_take, List.getElem?_take] at hu
    split at hu
    · exact avs_cell h j u hu
    · cases hu) (avs_one _)
theorem src_drop {w : World} {b off : Nat} {l : List Mt.Av} (h : ∀ j (hj : j < l.length), w.cell? ⟨b, off + j * 2, none⟩ = some (.string (Mt.str l[j].1)) ∧ w.cell? ⟨b, off + j * 2 + 1, none⟩ = some (.string (Mt.str l[j].2))) (n c : Nat) :
    Src Tryz.prog 2 89 (.slice (some ⟨b, off + n * 2, none⟩) (l.length - n) c) (l.drop n).length (avs (l.drop n)) w := by
  rw [List.length_drop]
  exact Src.ofSlice w Tryz.underlying89 ⟨b, off + n * 2, none⟩ (l.length - n) c _ (by rw [avs_length, List.length_drop]) (fun j u hu => by
    rw [add_off, Nat.add_assoc]
    rw [avs_drop, List.getElem?_drop] at hu
    exact avs_cell h (n * 2 + j) u hu) (avs_one _)
theorem Mt.less_le (a b : ByteArray) : (Op.bytesLess a.toList b.toList || a.toList == b.toList) = Mt.leB a.data.toList b.data.toList := by
  rw [bytesLess_eq, ByteArray.toList_eq, ByteArray.toList_eq]
  unfold Mt.leB
  rw [Bool.eq_iff_iff]
  simp only [Bool.or_eq_true, decide_eq_true_eq, beq_iff_eq]
  constructor
  · rintro (h | h)
    · exact List.le_of_lt h
    · rw [h]; exact List.le_refl _
  · intro h
    by_cases e : a.data.toList = b.data.toList
    · exact .inr e
    · left
      by_cases h2 : a.data.toList < b.data.toList
      · exact h2
      · exact absurd (List.le_antisymm h (List.not_lt.1 h2)) e
end Go.Proofs.YtngdbhncafnliaaGreat

/-
  What the document's plain comes to.
-/
namespace Go.Proofs.YtngdbhncafnliaaGreat
open Go.RowKit

theorem pair_set {u : World} {pb : Nat} {x y : Value} {T : TypeId} (hk : u.heap[pb]? = some (.cells #[x, y] T)) (x' y' : Value) : ((u.setCell ⟨pb, 0, none⟩ x').setCell ⟨pb, 1, none⟩ y').heap[pb]? = some (.cells #[x', y'] T) := by
  have h1 := heap_setCell_same u pb 0 _ T x' hk
  have h2 := heap_setCell_same _ pb 1 _ T y' h1
  exact h2
theorem alloc_lt (w : World) (o : Obj) : w.heap.size < (w.alloc o).heap.size := by simp
theorem alloc_drew_size (w : World) (o : Obj) : ((w.alloc o).drew).heap.size = w.heap.size + 1 := by simp
theorem own_cat' {base n1 n2 n3 : Nat} {w : World} {v : Value} {l1 : List Mt.Av} (h : IsOwn 87 2 base w v n1 (avs l1)) (hn1 : n1 = l1.length) (hbase : base ≤ w.heap.size) (x : Value) (l2 : List Mt.Av) (hn2 : n2 = l2.length) (src : Src Tryz.prog 2 89 x l2.length (avs l2) w) (h3 : n3 = n1 + n2) (hn : n3 ≤ 1000) :
    ∃ a' c' w', (∀ ty, (Builtin.append_ #[89, 89] ty #[v, x]).run Tryz.prog w = .ok (.slice a' n3 c') w') ∧ IsOwn 87 2 base w' (.slice a' n3 c') n3 (avs (l1 ++ l2)) ∧ Below base w w' := by
  subst hn1; subst hn2; subst h3
  have := own_cat h hbase x l2 src hn
  rw [List.length_append] at this
  exact this
theorem own_cells {base : Nat} {w : World} {b off n cap : Nat} {l : List Mt.Av} (h : IsOwn 87 2 base w (.slice (some ⟨b, off, none⟩) n cap) n (avs l)) : n ≤ cap ∧ b < w.heap.size ∧ ∀ j (hj : j < l.length), w.cell? ⟨b, off + j * 2, none⟩ = some (.string (Mt.str l[j].1)) ∧ w.cell? ⟨b, off + j * 2 + 1, none⟩ = some (.string (Mt.str l[j].2)) := by
  obtain ⟨g, hg, hl, h⟩ := h
  rcases h with ⟨_, h⟩ | ⟨off2, cap2, cur, he, h2, h3, h4, h5⟩
  · cases h
  · cases he
    refine ⟨h3, lt_of_block h2, fun j hj => ?_⟩
    have ha := avs_get l j hj
    have hl2 := avs_length l
    constructor
    · have := h5 (j * 2) (by omega)
      rw [cell_of_row _ b _ _ _ _ h2, this, ← ha.1, List.getElem?_eq_getElem]
    · have := h5 (j * 2 + 1) (by omega)
      rw [cell_of_row _ b _ _ _ _ h2, Nat.add_assoc, this, ← ha.2, List.getElem?_eq_getElem]
set_option maxRecDepth 100000 in
set_option maxHeartbeats 8000000 in
theorem rplain_any : PlainC := by
  intro w v d hv hg
  have HV := Lib.hid hv
  obtain ⟨a, cap, rfl, hn, _⟩ := hv
  have HX := Lib.hid (HV.out.row)
  have HG := Lib.hid hg
  obtain ⟨i0, hi, hz0, hz1, hz2⟩ := info_parts Tryz.infoAva
  have HI := Lib.hid (And.intro hi (And.intro hz0 (And.intro hz1 hz2)))
  clear hg hi hz0 hz1 hz2
  go_enter Tryz.func69, Tryz.ntmps69
  go_wp2_with fail
  go_loopw [3, 14] (fun v i wr => ∃ (j : Nat) (D : List (List Mt.Av)) (a2 : Option Addr) (c2 : Nat), i = .int .i64 j ∧ v = .slice a2 D.length c2 ∧ j ≤ d.length ∧ Hid (∃ g xs, w.heap.size ≤ g ∧ IsRw 89 1 wr g (.slice a2 D.length c2) D.length xs ∧ AreRdns wr (fun b => w.heap.size ≤ b ∧ b ≠ g) xs D) ∧ Hid (D.length = j ∧ D.map Mt.speltL = (d.take j).map Mt.normL ∧ ∀ r ∈ D, Mt.GoodR r) ∧ Hid (Below w.heap.size w wr))
    (fun _ i _ => d.length - (intOf i).toNat)
  case atStart => exact ⟨0, [], none, 0, rfl, rfl, Nat.zero_le _, Lib.hid ⟨w.heap.size, [], Nat.le_refl _, IsRw.nil _ _ _ _, rfl, fun i hi => by simp at hi⟩, Lib.hid ⟨rfl, rfl, by simp⟩, Lib.hid (Below.refl _ _)⟩
  case round =>
    obtain ⟨j, D, a2, c2, rfl, rfl, hj, HO, HD, HB⟩ := hrel
    by_cases hlt : j < d.length
    · obtain ⟨b, off, rfl, x, hx, hload⟩ := HX.out j hlt
      have hl0 := hload wr HB.out
      have hgr := HG.out.2 _ (List.getElem_mem hlt)
      have HTK := Lib.hid (List.take_succ_eq_append_getElem hlt)
      obtain ⟨r, hr⟩ : ∃ r, d[j] = r := ⟨_, rfl⟩
      rw [hr] at hx hgr HTK
      have HGR := Lib.hid hgr
      have HXR := Lib.hid hx
      obtain ⟨xa, xc, rfl, hrn, _⟩ := hx
      have HY := Lib.hid (HXR.out.row)
      clear hload hr hgr
      go_wp2_with fail
      obtain ⟨wo, rfl⟩ : ∃ wo, wo = wr := ⟨_, rfl⟩
      go_loopw [6, 20] (fun v i wi => ∃ (l : List Mt.Av) (a3 : Option Addr) (c3 : Nat), i = .int .i64 l.length ∧ v = .slice a3 l.length c3 ∧ l.length ≤ r.length ∧ Hid (IsOwn 87 2 wo.heap.size wi (.slice a3 l.length c3) l.length (avs l)) ∧ Hid ((l.map Mt.avL).Pairwise (fun a b => Mt.leB a b = true) ∧ l.Perm ((r.take l.length).map Mt.plainA)) ∧ Hid (Below wo.heap.size wo wi))
        (fun _ i _ => r.length - (intOf i).toNat)
      case atStart => exact ⟨[], none, 0, rfl, rfl, Nat.zero_le _, Lib.hid (IsOwn.nil _ _ _ _), Lib.hid ⟨by simp, by simp⟩, Lib.hid (Below.refl _ _)⟩
      case round =>
        obtain ⟨l, a3, c3, rfl, rfl, hk, HL, HS, HBI⟩ := hrel
        by_cases hklt : l.length < r.length
        · obtain ⟨b2, off2, rfl, hload2⟩ := HY.out l.length hklt
          obtain ⟨hm0, hm1⟩ := hload2 wr (HB.out.trans (HBI.out.mono HB.out.size))
          have hga := HGR.out.2 _ (List.getElem_mem hklt)
          obtain ⟨av, hav⟩ : ∃ av, r[l.length] = av := ⟨_, rfl⟩
          have HAV := Lib.hid hav
          rw [hav] at hm0 hm1 hga
          have HGA := Lib.hid hga
          have HFO := Lib.hid (fun u => rfold_any (Mt.str av.1) u (by rw [Mt.str_size]; omega))
          rw [Mt.str_data] at HFO
          have HPR := Lib.hid (fun u => rprep_any (Mt.str av.2) u (by rw [Mt.str_size]; omega))
          rw [Mt.str_data, Mt.str_size, Mt.rb_prep] at HPR
          obtain ⟨A, hA⟩ : ∃ A, List.map Mt.sm av.1 = A := ⟨_, rfl⟩
          obtain ⟨C, hC⟩ : ∃ C, Mt.prep av.2 = C := ⟨_, rfl⟩
          rw [hA] at HFO
          rw [hC] at HPR
          have HPL : Hid ((A, C) = Mt.plainA av ∧ A.length ≤ 32 ∧ C.length ≤ 4096) := Lib.hid ⟨by rw [← hA, ← hC]; rfl, by rw [← hA, List.length_map]; exact hga.1, by rw [← hC]; have := Mt.prep_length av.2; omega⟩
          have hb0 := (Below.refl wr.heap.size wr).alloc (Nat.le_refl _) (.cells #[.string (Mt.str av.1), .string (Mt.str av.2)] 87)
          have HBx := Lib.hid hb0
          obtain ⟨p1, p2⟩ := box2_of (heap_alloc_new wr (.cells #[.string (Mt.str av.1), .string (Mt.str av.2)] 87))
          have HZ : Hid (wr.heap.size + 1 ≤ ((wr.alloc (.cells #[.string (Mt.str av.1), .string (Mt.str av.2)] 87)).drew).heap.size) := Lib.hid (by simp)
          have HP := Lib.hid (fun (u : World) (hu : Below (wr.heap.size + 1) (wr.alloc (.cells #[.string (Mt.str av.1), .string (Mt.str av.2)] 87)).drew u) => And.intro ((hu.cell (p := ⟨wr.heap.size, 0, none⟩) (by simp)).trans ((World.cell?_drew _ _).trans p1)) ((hu.cell (p := ⟨wr.heap.size, 1, none⟩) (by simp)).trans ((World.cell?_drew _ _).trans p2)))
          have HPc := Lib.hid (Below.refl (wr.heap.size + 1) (wr.alloc (.cells #[.string (Mt.str av.1), .string (Mt.str av.2)] 87)).drew)
          obtain ⟨q1, q2⟩ := HP.out _ HPc.out
          obtain ⟨s1, s2⟩ := HP.out _ (HPc.out.alloc (by simp) (.cells #[.string ⟨#[]⟩, .string ⟨#[]⟩] 87))
          clear hav hga hA hC hb0 hload2
          go_upto_region 9 with fail
          go_cut [9, 20] from 20 to 77 (fun t9 t20 wx => t20 = .int .i64 l.length ∧ ∃ pb, t9 = .pointer (some ⟨pb, 0, none⟩) ∧ Hid (wr.heap.size + 1 ≤ pb ∧ wx.heap[pb]? = some (.cells #[.string (Mt.str A), .string (Mt.str C)] 87) ∧ Below wr.heap.size wr wx))
          case first =>
            go_region_law (first
              | (go_simp; go_at_call 46; go_must ((refine (HFO.out _).mono ?_); (rintro e w2 ⟨rfl, hb⟩); (first | ((have HPc := Lib.hid (HPc.out.trans (hb.mono (Nat.le_trans HZ.out HPc.out.size)))); (try ((have hk := (hb.block _ hkl).trans hk); (have hkl := Nat.lt_of_lt_of_le hkl hb.size); (obtain ⟨z0, z1⟩ := box2_of hk); (have f0 := frozen_of_row _ _ 0 _ _ hk); (have f1 := frozen_of_row _ _ 1 _ _ hk)))) | ((have hge := Nat.le_trans HZ.out HPc.out.size); (have HPc := Lib.hid ((HPc.out.alloc (by have := HPc.out.size; have := HZ.out; omega) _).trans (hb.mono (by have := HPc.out.size; have := HZ.out; simp <;> omega)))); (have hk := (hb.block _ (alloc_lt _ _)).trans (heap_alloc_new _ _)); (have hkl := Nat.lt_of_lt_of_le (alloc_lt _ _) hb.size); (try ((have hk : w2.heap[wr.heap.size + 1]? = some (.cells #[.string ⟨#[]⟩, .string ⟨#[]⟩] 87) := by simpa using hk); (have hkl : wr.heap.size + 1 < w2.heap.size := by simpa using hkl))); (obtain ⟨z0, z1⟩ := box2_of hk); (have f0 := frozen_of_row _ _ 0 _ _ hk); (have f1 := frozen_of_row _ _ 1 _ _ hk))); (obtain ⟨q1, q2⟩ := HP.out _ HPc.out); (try obtain ⟨s1, s2⟩ := HP.out _ (HPc.out.alloc (by have := HPc.out.size; have := HZ.out; omega) (.cells #[.string ⟨#[]⟩, .string ⟨#[]⟩] 87))); clear hb))
              | (go_simp; go_at_call 83; go_must ((refine (HPR.out _).mono ?_); (rintro e w2 ⟨rfl, hb⟩); (first | ((have HPc := Lib.hid (HPc.out.trans (hb.mono (Nat.le_trans HZ.out HPc.out.size)))); (try ((have hk := (hb.block _ hkl).trans hk); (have hkl := Nat.lt_of_lt_of_le hkl hb.size); (obtain ⟨z0, z1⟩ := box2_of hk); (have f0 := frozen_of_row _ _ 0 _ _ hk); (have f1 := frozen_of_row _ _ 1 _ _ hk)))) | ((have hge := Nat.le_trans HZ.out HPc.out.size); (have HPc := Lib.hid ((HPc.out.alloc (by have := HPc.out.size; have := HZ.out; omega) _).trans (hb.mono (by have := HPc.out.size; have := HZ.out; simp <;> omega)))); (have hk := (hb.block _ (alloc_lt _ _)).trans (heap_alloc_new _ _)); (have hkl := Nat.lt_of_lt_of_le (alloc_lt _ _) hb.size); (try ((have hk : w2.heap[wr.heap.size + 1]? = some (.cells #[.string ⟨#[]⟩, .string ⟨#[]⟩] 87) := by simpa using hk); (have hkl : wr.heap.size + 1 < w2.heap.size := by simpa using hkl))); (obtain ⟨z0, z1⟩ := box2_of hk); (have f0 := frozen_of_row _ _ 0 _ _ hk); (have f1 := frozen_of_row _ _ 1 _ _ hk))); (obtain ⟨q1, q2⟩ := HP.out _ HPc.out); (try obtain ⟨s1, s2⟩ := HP.out _ (HPc.out.alloc (by have := HPc.out.size; have := HZ.out; omega) (.cells #[.string ⟨#[]⟩, .string ⟨#[]⟩] 87))); clear hb)))
            all_goals
              go_wp2_with fail
              go_meet
              case rel =>
                refine ⟨rfl, ?_⟩
                have hbw := HBx.out.drew.trans (HPc.out.mono (by simp))
                have hlw := Nat.le_trans HZ.out HPc.out.size
                first
                  | exact ⟨_, rfl, Lib.hid ⟨by first | exact hge | omega, pair_set hk _ _, (hbw.setCell (by first | (show wr.heap.size ≤ wr.heap.size + 1; omega) | (have := hge; simp only; omega)) _).setCell (by first | (show wr.heap.size ≤ wr.heap.size + 1; omega) | (have := hge; simp only; omega)) _⟩⟩
                  | exact ⟨_, rfl, Lib.hid ⟨hlw, heap_alloc_new _ _, hbw.alloc (by omega) _⟩⟩
          case rest =>
            obtain ⟨rfl, pb, rfl, hc⟩ := hcut
            have hsz := hc.out.2.2.size
            have HKB : Hid (wc.heap[pb]? = some (.cells #[.string (Mt.str A), .string (Mt.str C)] 87) ∧ pb < wc.heap.size ∧ wr.heap.size ≤ pb) := Lib.hid ⟨hc.out.2.1, lt_of_block hc.out.2.1, by have := hc.out.1; omega⟩
            have HLc := Lib.hid (HL.out.below hc.out.2.2)
            have HBW := Lib.hid (HBI.out.trans (hc.out.2.2.mono HBI.out.size))
            have HAC := Lib.hid HPL.out.2.2
            have HAA := Lib.hid HPL.out.2.1
            have HL8 : l.length ≤ 8 := by have := HGR.out.1; omega
            have HWW := Lib.hid (fun (X : List UInt8) (u : World) (hX : X.length ≤ 4096) => rwritten_any (Mt.str X) u (by rw [Mt.str_size]; omega))
            simp only [Mt.str_data] at HWW
            have HLG : Hid (∀ x ∈ l, x.1.length ≤ 32 ∧ x.2.length ≤ 4096) := Lib.hid (by
              intro x hx
              have h := HS.out.2.mem_iff.1 hx
              rw [List.mem_map] at h
              obtain ⟨y, hy, rfl⟩ := h
              have := HGR.out.2 y (List.mem_of_mem_take hy)
              refine ⟨by simp [Mt.plainA, Mt.foldL]; omega, ?_⟩
              have h2 := Mt.prep_length y.2
              show (Mt.prep y.2).length ≤ 4096
              omega)
            clear HFO HPR HBx HP HPc HZ p1 p2 q1 q2 s1 s2 hm0 hm1 hl0 hc hsz
            have HFM : Hid ((l.length = 0 ∧ a3 = none ∧ c3 = 0) ∨ ∃ b3 off3, a3 = some ⟨b3, off3, none⟩) := Lib.hid (by
              obtain ⟨g3, _, _, h | ⟨off3, cap3, _, h, _⟩⟩ := HLc.out
              · left; obtain ⟨h1, h2⟩ := h; refine ⟨h1, ?_, ?_⟩ <;> (injection h2)
              · right; cases h; exact ⟨_, _, rfl⟩)
            go_wp2_with fail
            go_loopw [10] (fun n wi => ∃ k : Nat, n = .int .i64 k ∧ k ≤ l.length ∧ Hid (∀ j (h : j < l.length), k ≤ j → Mt.leB (Mt.avL l[j]) (Mt.avL (A, C)) = false) ∧ Hid (Below wc.heap.size wc wi)) (fun n _ => (intOf n).toNat)
            case atStart => exact ⟨l.length, rfl, Nat.le_refl _, Lib.hid (fun j h h2 => absurd h (by omega)), Lib.hid (Below.refl _ _)⟩
            case round =>
              obtain ⟨k, rfl, hkl, HK, HBK⟩ := hrel
              have HBX := Lib.hid (HBW.out.trans (HBK.out.mono HBW.out.size))
              have HLk := Lib.hid (HLc.out.below HBK.out)
              have HKk : Hid (wr.heap[pb]? = some (.cells #[.string (Mt.str A), .string (Mt.str C)] 87) ∧ pb < wr.heap.size) := Lib.hid ⟨(HBK.out.block _ HKB.out.2.1).trans HKB.out.1, Nat.lt_of_lt_of_le HKB.out.2.1 HBK.out.size⟩
              by_cases hk0 : k = 0
              · subst hk0
                have HIN : Hid (Mt.InsOK l (A, C) 0) := Lib.hid ⟨Nat.zero_le _, fun h => absurd h (by omega), fun j h _ => HK.out j h (Nat.zero_le _)⟩
                have HD0 : Hid (∀ n, Below wr.heap.size wr (wr.drewN n)) := Lib.hid (fun n => Below.drewK (Below.refl _ _) n)
                rcases HFM.out with ⟨hl0, rfl, rfl⟩ | ⟨b3, off3, rfl⟩
                · clear HBK HLc HBW
                  go_upto_region 11 with fail
                  go_quiet (fail)
                  have hbz := HD0.out nq
                  generalize wr.drewN nq = wz at *
                  have HBz := Lib.hid (HBX.out.trans (hbz.mono HBX.out.size))
                  have HKz : Hid (wz.heap[pb]? = some (.cells #[.string (Mt.str A), .string (Mt.str C)] 87) ∧ pb < wz.heap.size) := Lib.hid ⟨(hbz.block _ HKk.out.2).trans HKk.out.1, Nat.lt_of_lt_of_le HKk.out.2 hbz.size⟩
                  have hnil : Hid (l = []) := Lib.hid (List.length_eq_zero_iff.1 hl0)
                  have src1 : Src Tryz.prog 2 89 (.slice none 0 0) (l.take 0).length (avs (l.take 0)) wz := by
                    rw [hnil.out]; exact Src.ofNil wz Tryz.underlying89 0
                  clear hl0
                  obtain ⟨V0, hV0⟩ : ∃ V0, V0 = Value.slice none 0 0 := ⟨_, rfl⟩
                  have HV0 := Lib.hid hV0
                  have hv0 : IsOwn 87 2 wz.heap.size wz V0 0 (avs []) := by rw [hV0]; exact IsOwn.nil 87 2 wz.heap.size wz
                  clear hV0
                  obtain ⟨a4, c4, w4, hrun1, hown4, hb4⟩ := own_cat' (n1 := 0) (n3 := 0) (l1 := []) hv0 rfl (Nat.le_refl _) _ _ (n2 := 0) (by rw [List.length_take]; omega) src1 (by omega) (by omega)
                  rw [List.nil_append] at hown4
                  have hk4 := (hb4.block _ HKz.out.2).trans HKz.out.1
                  obtain ⟨x0, x1⟩ := box2_of hk4
                  obtain ⟨i0', hi', hz0', hz1', hz2'⟩ := info_parts Tryz.infoAva
                  obtain ⟨a5, c5, w5, hrun2, hown5, hb5⟩ := own_push (T := 89) (tx := 89) Tryz.underlying89 Tryz.underlying89 hi' hz0' hz1' hz2' rfl hown4 hb4.size (avs_one _) #[.string (Mt.str A), .string (Mt.str C)] rfl (by simp [Value.oneCell']) (by omega) (by omega)
                  have hw5 := hb4.trans hb5
                  have e5 : avs (l.take (0)) ++ #[Value.string (Mt.str A), Value.string (Mt.str C)].toList = avs (l.take (0) ++ [(A, C)]) := by rw [avs_append]; rfl
                  rw [e5] at hown5
                  have src2 : Src Tryz.prog 2 89 (.slice none l.length 0) (l.drop 0).length (avs (l.drop 0)) w5 := by
                    rw [hnil.out]; exact Src.ofNil w5 Tryz.underlying89 0
                  obtain ⟨a6, c6, w6, hrun3, hown6, hb6⟩ := own_cat' (n3 := l.length + 1) hown5 (by rw [List.length_append, List.length_take]; simp only [List.length_cons, List.length_nil]; omega) (Nat.le_trans hb4.size hb5.size) _ _ (n2 := l.length - (0)) (by rw [List.length_drop]) src2 (by omega) (by omega)
                  have HO6 : Hid (IsOwn 87 2 wo.heap.size w6 (.slice a6 (l.length + 1) c6) (l.length + 1) (avs (Mt.insA l (A, C) (0)))) := Lib.hid (hown6.mono (HBz.out.size))
                  have HB6 : Hid (Below wo.heap.size wo w6) := Lib.hid (HBz.out.trans ((hw5.trans hb6).mono HBz.out.size))
                  have HR1 := Lib.hid hrun1
                  have HR2 := Lib.hid hrun2
                  have HR3 := Lib.hid hrun3
                  clear hv0 hown4 hown5 hown6 hb4 hb5 hb6 hw5 hk4 e5 src1 src2 hi' hz0' hz1' hz2' hrun1 hrun2 hrun3
                  go_upto_region 13 with fail
                  go_upto_region 14 with fail
                  rw [← HV0.out]
                  have hrun1 := HR1.out
                  go_upto_region 15 with (refine wpList_append_run rfl (.tmp 62) (.tmp 65) 89 89 rfl V0 (.slice none 0 0) rfl rfl hrun1 ?_; clear hrun1)
                  have hrun2 := HR2.out
                  go_upto_region 16 with (refine wpList_append_run rfl (.tmp 67) (.tmp 69) 89 89 rfl (.slice a4 (0) c4) (.slice (some ⟨w4.heap.size, 0, none⟩) 1 1) rfl rfl hrun2 ?_; clear hrun2)
                  have hrun3 := HR3.out
                  go_upto_region 17 with (refine wpList_append_run rfl (.tmp 71) (.tmp 74) 89 89 rfl (.slice a5 (1) c5) (.slice none l.length 0) rfl rfl hrun3 ?_; clear hrun3)
                  go_upto_region 18 with fail
                  rw [HV0.out]
                  go_wp2_with fail
                  have hlen : (Mt.insA l (A, C) (0)).length = l.length + 1 := by have := (Mt.ins_perm l (A, C) (0)).length_eq; simpa using this
                  exact ⟨⟨Mt.insA l (A, C) (0), a6, c6, by rw [hlen]; go_num, by rw [hlen], by rw [hlen]; omega, by rw [hlen]; exact HO6, Lib.hid ⟨Mt.ins_sorted HS.out.1 HIN.out, by rw [hlen]; exact Mt.ins_step hklt (by rw [HAV.out]; exact HPL.out.1) HS.out.2⟩, HB6⟩, by simp only [intOf]; omega⟩
                · clear HBK HLc HBW
                  go_upto_region 11 with fail
                  go_quiet (fail)
                  have hbz := HD0.out nq
                  have HLz := Lib.hid (HLk.out.below hbz)
                  generalize wr.drewN nq = wz at *
                  have HBz := Lib.hid (HBX.out.trans (hbz.mono HBX.out.size))
                  have HKz : Hid (wz.heap[pb]? = some (.cells #[.string (Mt.str A), .string (Mt.str C)] 87) ∧ pb < wz.heap.size) := Lib.hid ⟨(hbz.block _ HKk.out.2).trans HKk.out.1, Nat.lt_of_lt_of_le HKk.out.2 hbz.size⟩
                  have src1 := src_take (own_cells HLz.out).2.2 (0) c3 (by omega)
                  obtain ⟨V0, hV0⟩ : ∃ V0, V0 = Value.slice none 0 0 := ⟨_, rfl⟩
                  have HV0 := Lib.hid hV0
                  have hv0 : IsOwn 87 2 wz.heap.size wz V0 0 (avs []) := by rw [hV0]; exact IsOwn.nil 87 2 wz.heap.size wz
                  clear hV0
                  obtain ⟨a4, c4, w4, hrun1, hown4, hb4⟩ := own_cat' (n1 := 0) (n3 := 0) (l1 := []) hv0 rfl (Nat.le_refl _) _ _ (n2 := 0) (by rw [List.length_take]; omega) src1 (by omega) (by omega)
                  rw [List.nil_append] at hown4
                  have hk4 := (hb4.block _ HKz.out.2).trans HKz.out.1
                  obtain ⟨x0, x1⟩ := box2_of hk4
                  obtain ⟨i0', hi', hz0', hz1', hz2'⟩ := info_parts Tryz.infoAva
                  obtain ⟨a5, c5, w5, hrun2, hown5, hb5⟩ := own_push (T := 89) (tx := 89) Tryz.underlying89 Tryz.underlying89 hi' hz0' hz1' hz2' rfl hown4 hb4.size (avs_one _) #[.string (Mt.str A), .string (Mt.str C)] rfl (by simp [Value.oneCell']) (by omega) (by omega)
                  have hw5 := hb4.trans hb5
                  have e5 : avs (l.take (0)) ++ #[Value.string (Mt.str A), Value.string (Mt.str C)].toList = avs (l.take (0) ++ [(A, C)]) := by rw [avs_append]; rfl
                  rw [e5] at hown5
                  have src2 := src_drop (own_cells (HLz.out.below hw5)).2.2 (0) (c3 - (0))
                  obtain ⟨a6, c6, w6, hrun3, hown6, hb6⟩ := own_cat' (n3 := l.length + 1) hown5 (by rw [List.length_append, List.length_take]; simp only [List.length_cons, List.length_nil]; omega) (Nat.le_trans hb4.size hb5.size) _ _ (n2 := l.length - (0)) (by rw [List.length_drop]) src2 (by omega) (by omega)
                  have HO6 : Hid (IsOwn 87 2 wo.heap.size w6 (.slice a6 (l.length + 1) c6) (l.length + 1) (avs (Mt.insA l (A, C) (0)))) := Lib.hid (hown6.mono (HBz.out.size))
                  have HB6 : Hid (Below wo.heap.size wo w6) := Lib.hid (HBz.out.trans ((hw5.trans hb6).mono HBz.out.size))
                  have HR1 := Lib.hid hrun1
                  have HR2 := Lib.hid hrun2
                  have HR3 := Lib.hid hrun3
                  clear hv0 hown4 hown5 hown6 hb4 hb5 hb6 hw5 hk4 e5 src1 src2 hi' hz0' hz1' hz2' hrun1 hrun2 hrun3
                  go_upto_region 13 with fail
                  go_upto_region 14 with fail
                  rw [← HV0.out]
                  have hrun1 := HR1.out
                  go_upto_region 15 with (refine wpList_append_run rfl (.tmp 62) (.tmp 65) 89 89 rfl V0 (.slice (some ⟨b3, off3, none⟩) (0) c3) rfl rfl hrun1 ?_; clear hrun1)
                  have hrun2 := HR2.out
                  go_upto_region 16 with (refine wpList_append_run rfl (.tmp 67) (.tmp 69) 89 89 rfl (.slice a4 (0) c4) (.slice (some ⟨w4.heap.size, 0, none⟩) 1 1) rfl rfl hrun2 ?_; clear hrun2)
                  have hrun3 := HR3.out
                  go_upto_region 17 with (refine wpList_append_run rfl (.tmp 71) (.tmp 74) 89 89 rfl (.slice a5 (1) c5) (.slice (some ⟨b3, off3, none⟩) l.length c3) rfl rfl hrun3 ?_; clear hrun3)
                  go_upto_region 18 with fail
                  rw [HV0.out]
                  go_wp2_with fail
                  have hlen : (Mt.insA l (A, C) (0)).length = l.length + 1 := by have := (Mt.ins_perm l (A, C) (0)).length_eq; simpa using this
                  exact ⟨⟨Mt.insA l (A, C) (0), a6, c6, by rw [hlen]; go_num, by rw [hlen], by rw [hlen]; omega, by rw [hlen]; exact HO6, Lib.hid ⟨Mt.ins_sorted HS.out.1 HIN.out, by rw [hlen]; exact Mt.ins_step hklt (by rw [HAV.out]; exact HPL.out.1) HS.out.2⟩, HB6⟩, by simp only [intOf]; omega⟩
              · obtain ⟨m, rfl⟩ : ∃ m, k = m + 1 := ⟨k - 1, by omega⟩
                have hml : m < l.length := by omega
                obtain ⟨b3, off3, rfl⟩ : ∃ b3 off3, a3 = some ⟨b3, off3, none⟩ := by
                  rcases HFM.out with ⟨hl0, _, _⟩ | h
                  · omega
                  · exact h
                have HC := Lib.hid (fun (u : World) (hu : Below wr.heap.size wr u) => And.intro ((own_cells (HLk.out.below hu)).2.2 m hml) (box2_of ((hu.block _ HKk.out.2).trans HKk.out.1)))
                obtain ⟨y, hy⟩ : ∃ y, l[m] = y := ⟨_, rfl⟩
                have hyl := HLG.out _ (List.getElem_mem hml)
                rw [hy] at HC hyl
                have HY1 := Lib.hid hyl.2
                have HYY := Lib.hid hy
                obtain ⟨⟨z0, z1⟩, z2, z3⟩ := HC.out _ (Below.refl _ _)
                have HPc := Lib.hid (Below.drewK (Below.refl wr.heap.size wr) 1)
                have HW1 : Hid (∀ u, Calls Tryz.prog 66 #[.string (Mt.str y.2)] u fun e w' => e = .returned (.string (Mt.str (Mt.wrL y.2))) ∧ Below u.heap.size u w') := Lib.hid (fun u => HWW.out y.2 u HY1.out)
                have HW2 : Hid (∀ u, Calls Tryz.prog 66 #[.string (Mt.str C)] u fun e w' => e = .returned (.string (Mt.str (Mt.wrL C))) ∧ Below u.heap.size u w') := Lib.hid (fun u => HWW.out C u HAC.out)
                have g1 : ¬ (9223372036854775807 < (Mt.str y.1).size + 1) := by rw [Mt.str_size]; omega
                have g2 : ¬ (9223372036854775807 < (Mt.str y.1).size + 1 + (Mt.str (Mt.wrL y.2)).size) := by
                  have := Mt.wrF_len true y.2
                  have := HY1.out
                  rw [Mt.str_size, Mt.str_size]; unfold Mt.wrL; omega
                have g3 : ¬ (9223372036854775807 < (Mt.str A).size + 1) := by have := HAA.out; rw [Mt.str_size]; omega
                have g4 : ¬ (9223372036854775807 < (Mt.str A).size + 1 + (Mt.str (Mt.wrL C)).size) := by
                  have := Mt.wrF_len true C
                  have := HAA.out
                  have := HAC.out
                  rw [Mt.str_size, Mt.str_size]; unfold Mt.wrL; omega
                have hd0 : decide ((0 : Int) < (m : Int) + 1) = true := decide_eq_true (by omega)
                have hd1 : (0 : Int) ≤ (m : Int) + 1 - 1 := by omega
                have hd2 : ((m : Int) + 1 - 1).toNat = m := by omega
                have hd3 : (m : Int) + 1 - 1 = (m : Int) := by omega
                have HBKK := HBK
                clear HBK HLc HBW hk0 hyl hy HV HX HXR HY HTK HG HI HO HD HB HGA
                go_upto_region 11 with fail
                have hwr : IntKind.i64.wrap (m : Int) = (m : Int) := by rw [IntKind.wrap_i64]; omega
                obtain ⟨z, hz⟩ : ∃ z, Mt.leB (Mt.avL y) (Mt.avL (A, C)) = z := ⟨_, rfl⟩
                have hgt := Mt.less_le (Mt.str y.1 ++ ⟨#[61]⟩ ++ Mt.str (Mt.wrL y.2)) (Mt.str A ++ ⟨#[61]⟩ ++ Mt.str (Mt.wrL C))
                rw [show (Mt.str y.1 ++ ⟨#[61]⟩ ++ Mt.str (Mt.wrL y.2)).data.toList = Mt.avL y by simp [Mt.str, Mt.avL], show (Mt.str A ++ ⟨#[61]⟩ ++ Mt.str (Mt.wrL C)).data.toList = Mt.avL (A, C) by simp [Mt.str, Mt.avL], hz] at hgt
                have HZ1 := Lib.hid hz
                clear hz
                generalize hF : (Act.mk _ _) = F
                have HF6 : Hid (F.tmps[6]? = some (.slice (some ⟨b3, off3, none⟩) l.length c3)) := Lib.hid (by rw [← hF]; rfl)
                have HF9 : Hid (F.tmps[9]? = some (.pointer (some ⟨pb, 0, none⟩))) := Lib.hid (by rw [← hF]; rfl)
                have HF10 : Hid (F.tmps[10]? = some (.int .i64 ((m : Int) + 1))) := Lib.hid (by rw [← hF]; rfl)
                have HSZ : Hid (33 + 27 ≤ F.tmps.size) := Lib.hid (by rw [← hF]; exact of_decide_eq_true rfl)
                have HF := Lib.hid hF
                clear hF
                refine wp_region_vals (by kernel_rfl) F 33 [.int .i64 ((m : Int) + 1), .bool true, .bool true, .slice (some ⟨b3, off3, none⟩) l.length c3, .int .i64 ((m : Int) + 1), .int .i64 (m : Int), .pointer (some ⟨b3, off3 + m * 2, none⟩), .pointer (some ⟨b3, off3 + m * 2, none⟩), .string (Mt.str y.1), .string (Mt.str y.1 ++ ⟨#[61]⟩), .slice (some ⟨b3, off3, none⟩) l.length c3, .int .i64 ((m : Int) + 1), .int .i64 (m : Int), .pointer (some ⟨b3, off3 + m * 2, none⟩), .pointer (some ⟨b3, off3 + m * 2 + 1, none⟩), .string (Mt.str y.2), .string (Mt.str (Mt.wrL y.2)), .string (Mt.str y.1 ++ ⟨#[61]⟩ ++ Mt.str (Mt.wrL y.2)), .pointer (some ⟨pb, 0, none⟩), .string (Mt.str A), .string (Mt.str A ++ ⟨#[61]⟩), .pointer (some ⟨pb, 1, none⟩), .string (Mt.str C), .string (Mt.str (Mt.wrL C)), .string (Mt.str A ++ ⟨#[61]⟩ ++ Mt.str (Mt.wrL C)), .bool (!z), .bool (!z)] wr rfl HSZ.out (by kernel_rfl) (by kernel_rfl) ?step ?fin
                case step =>
                  intro i o ho a u hu hout hd
                  match i, ho with
                  | 0, ho =>
                    obtain rfl := Option.some.inj ho
                    have f10 : a.tmps[10]? = some (.int .i64 ((m : Int) + 1)) := (hout 10 (by decide)).trans HF10.out
                    clear hd ho hout
                    refine wpOp_step rfl (fun K' hK' => ?_)
                    go_simp
                    exact hK' _ _ ⟨rfl, Below.refl _ _⟩
                  | 1, ho =>
                    obtain rfl := Option.some.inj ho
                    have e0 : a.tmps[33]? = some (.int .i64 ((m : Int) + 1)) := hd 0 rfl
                    clear hd ho hout
                    refine wpOp_step rfl (fun K' hK' => ?_)
                    go_simp
                    exact hK' _ _ ⟨rfl, Below.refl _ _⟩
                  | 2, ho =>
                    obtain rfl := Option.some.inj ho
                    have e1 : a.tmps[34]? = some (.bool true) := hd 1 rfl
                    clear hd ho hout
                    refine wpOp_step rfl (fun K' hK' => ?_)
                    go_simp
                    exact hK' _ _ ⟨rfl, Below.refl _ _⟩
                  | 3, ho =>
                    obtain rfl := Option.some.inj ho
                    have e2 : a.tmps[35]? = some (.bool true) := hd 2 rfl
                    have f6 : a.tmps[6]? = some (.slice (some ⟨b3, off3, none⟩) l.length c3) := (hout 6 (by decide)).trans HF6.out
                    clear hd ho hout
                    refine wpOp_step rfl (fun K' hK' => ?_)
                    go_simp
                    exact hK' _ _ ⟨rfl, Below.refl _ _⟩
                  | 4, ho =>
                    obtain rfl := Option.some.inj ho
                    have e2 : a.tmps[35]? = some (.bool true) := hd 2 rfl
                    have f10 : a.tmps[10]? = some (.int .i64 ((m : Int) + 1)) := (hout 10 (by decide)).trans HF10.out
                    clear hd ho hout
                    refine wpOp_step rfl (fun K' hK' => ?_)
                    go_simp
                    exact hK' _ _ ⟨rfl, Below.refl _ _⟩
                  | 5, ho =>
                    obtain rfl := Option.some.inj ho
                    have e2 : a.tmps[35]? = some (.bool true) := hd 2 rfl
                    have e4 : a.tmps[37]? = some (.int .i64 ((m : Int) + 1)) := hd 4 rfl
                    clear hd ho hout
                    refine wpOp_step rfl (fun K' hK' => ?_)
                    go_simp
                    exact hK' _ _ ⟨rfl, Below.refl _ _⟩
                  | 6, ho =>
                    obtain rfl := Option.some.inj ho
                    have e2 : a.tmps[35]? = some (.bool true) := hd 2 rfl
                    have e3 : a.tmps[36]? = some (.slice (some ⟨b3, off3, none⟩) l.length c3) := hd 3 rfl
                    have e5 : a.tmps[38]? = some (.int .i64 (m : Int)) := hd 5 rfl
                    clear hd ho hout
                    refine wpOp_step rfl (fun K' hK' => ?_)
                    go_simp
                    exact hK' _ _ ⟨rfl, Below.refl _ _⟩
                  | 7, ho =>
                    obtain rfl := Option.some.inj ho
                    have e2 : a.tmps[35]? = some (.bool true) := hd 2 rfl
                    have e6 : a.tmps[39]? = some (.pointer (some ⟨b3, off3 + m * 2, none⟩)) := hd 6 rfl
                    clear hd ho hout
                    refine wpOp_step rfl (fun K' hK' => ?_)
                    go_simp
                    exact hK' _ _ ⟨rfl, Below.refl _ _⟩
                  | 8, ho =>
                    obtain rfl := Option.some.inj ho
                    have e2 : a.tmps[35]? = some (.bool true) := hd 2 rfl
                    have e7 : a.tmps[40]? = some (.pointer (some ⟨b3, off3 + m * 2, none⟩)) := hd 7 rfl
                    clear hd ho hout
                    refine wpOp_step rfl (fun K' hK' => ?_)
                    obtain ⟨⟨z0, z1⟩, z2, z3⟩ := HC.out _ hu
                    go_simp
                    exact hK' _ _ ⟨rfl, Below.refl _ _⟩
                  | 9, ho =>
                    obtain rfl := Option.some.inj ho
                    have e2 : a.tmps[35]? = some (.bool true) := hd 2 rfl
                    have e8 : a.tmps[41]? = some (.string (Mt.str y.1)) := hd 8 rfl
                    clear hd ho hout
                    refine wpOp_step rfl (fun K' hK' => ?_)
                    go_simp
                    exact hK' _ _ ⟨rfl, Below.refl _ _⟩
                  | 10, ho =>
                    obtain rfl := Option.some.inj ho
                    have e2 : a.tmps[35]? = some (.bool true) := hd 2 rfl
                    have f6 : a.tmps[6]? = some (.slice (some ⟨b3, off3, none⟩) l.length c3) := (hout 6 (by decide)).trans HF6.out
                    clear hd ho hout
                    refine wpOp_step rfl (fun K' hK' => ?_)
                    go_simp
                    exact hK' _ _ ⟨rfl, Below.refl _ _⟩
                  | 11, ho =>
                    obtain rfl := Option.some.inj ho
                    have e2 : a.tmps[35]? = some (.bool true) := hd 2 rfl
                    have f10 : a.tmps[10]? = some (.int .i64 ((m : Int) + 1)) := (hout 10 (by decide)).trans HF10.out
                    clear hd ho hout
                    refine wpOp_step rfl (fun K' hK' => ?_)
                    go_simp
                    exact hK' _ _ ⟨rfl, Below.refl _ _⟩
                  | 12, ho =>
                    obtain rfl := Option.some.inj ho
                    have e2 : a.tmps[35]? = some (.bool true) := hd 2 rfl
                    have e11 : a.tmps[44]? = some (.int .i64 ((m : Int) + 1)) := hd 11 rfl
                    clear hd ho hout
                    refine wpOp_step rfl (fun K' hK' => ?_)
                    go_simp
                    exact hK' _ _ ⟨rfl, Below.refl _ _⟩
                  | 13, ho =>
                    obtain rfl := Option.some.inj ho
                    have e2 : a.tmps[35]? = some (.bool true) := hd 2 rfl
                    have e10 : a.tmps[43]? = some (.slice (some ⟨b3, off3, none⟩) l.length c3) := hd 10 rfl
                    have e12 : a.tmps[45]? = some (.int .i64 (m : Int)) := hd 12 rfl
                    clear hd ho hout
                    refine wpOp_step rfl (fun K' hK' => ?_)
                    go_simp
                    exact hK' _ _ ⟨rfl, Below.refl _ _⟩
                  | 14, ho =>
                    obtain rfl := Option.some.inj ho
                    have e2 : a.tmps[35]? = some (.bool true) := hd 2 rfl
                    have e13 : a.tmps[46]? = some (.pointer (some ⟨b3, off3 + m * 2, none⟩)) := hd 13 rfl
                    clear hd ho hout
                    refine wpOp_step rfl (fun K' hK' => ?_)
                    go_simp
                    exact hK' _ _ ⟨rfl, Below.refl _ _⟩
                  | 15, ho =>
                    obtain rfl := Option.some.inj ho
                    have e2 : a.tmps[35]? = some (.bool true) := hd 2 rfl
                    have e14 : a.tmps[47]? = some (.pointer (some ⟨b3, off3 + m * 2 + 1, none⟩)) := hd 14 rfl
                    clear hd ho hout
                    refine wpOp_step rfl (fun K' hK' => ?_)
                    obtain ⟨⟨z0, z1⟩, z2, z3⟩ := HC.out _ hu
                    go_simp
                    exact hK' _ _ ⟨rfl, Below.refl _ _⟩
                  | 16, ho =>
                    obtain rfl := Option.some.inj ho
                    have e2 : a.tmps[35]? = some (.bool true) := hd 2 rfl
                    have e15 : a.tmps[48]? = some (.string (Mt.str y.2)) := hd 15 rfl
                    clear hd ho hout
                    refine wpOp_step rfl (fun K' hK' => ?_)
                    go_simp
                    refine (HW1.out _).mono ?_
                    rintro e w2 ⟨rfl, hb⟩
                    exact hK' _ _ ⟨rfl, hb⟩
                  | 17, ho =>
                    obtain rfl := Option.some.inj ho
                    have e2 : a.tmps[35]? = some (.bool true) := hd 2 rfl
                    have e9 : a.tmps[42]? = some (.string (Mt.str y.1 ++ ⟨#[61]⟩)) := hd 9 rfl
                    have e16 : a.tmps[49]? = some (.string (Mt.str (Mt.wrL y.2))) := hd 16 rfl
                    clear hd ho hout
                    refine wpOp_step rfl (fun K' hK' => ?_)
                    go_simp
                    exact hK' _ _ ⟨rfl, Below.refl _ _⟩
                  | 18, ho =>
                    obtain rfl := Option.some.inj ho
                    have e2 : a.tmps[35]? = some (.bool true) := hd 2 rfl
                    have f9 : a.tmps[9]? = some (.pointer (some ⟨pb, 0, none⟩)) := (hout 9 (by decide)).trans HF9.out
                    clear hd ho hout
                    refine wpOp_step rfl (fun K' hK' => ?_)
                    go_simp
                    exact hK' _ _ ⟨rfl, Below.refl _ _⟩
                  | 19, ho =>
                    obtain rfl := Option.some.inj ho
                    have e2 : a.tmps[35]? = some (.bool true) := hd 2 rfl
                    have e18 : a.tmps[51]? = some (.pointer (some ⟨pb, 0, none⟩)) := hd 18 rfl
                    clear hd ho hout
                    refine wpOp_step rfl (fun K' hK' => ?_)
                    obtain ⟨⟨z0, z1⟩, z2, z3⟩ := HC.out _ hu
                    go_simp
                    exact hK' _ _ ⟨rfl, Below.refl _ _⟩
                  | 20, ho =>
                    obtain rfl := Option.some.inj ho
                    have e2 : a.tmps[35]? = some (.bool true) := hd 2 rfl
                    have e19 : a.tmps[52]? = some (.string (Mt.str A)) := hd 19 rfl
                    clear hd ho hout
                    refine wpOp_step rfl (fun K' hK' => ?_)
                    go_simp
                    exact hK' _ _ ⟨rfl, Below.refl _ _⟩
                  | 21, ho =>
                    obtain rfl := Option.some.inj ho
                    have e2 : a.tmps[35]? = some (.bool true) := hd 2 rfl
                    have f9 : a.tmps[9]? = some (.pointer (some ⟨pb, 0, none⟩)) := (hout 9 (by decide)).trans HF9.out
                    clear hd ho hout
                    refine wpOp_step rfl (fun K' hK' => ?_)
                    go_simp
                    exact hK' _ _ ⟨rfl, Below.refl _ _⟩
                  | 22, ho =>
                    obtain rfl := Option.some.inj ho
                    have e2 : a.tmps[35]? = some (.bool true) := hd 2 rfl
                    have e21 : a.tmps[54]? = some (.pointer (some ⟨pb, 1, none⟩)) := hd 21 rfl
                    clear hd ho hout
                    refine wpOp_step rfl (fun K' hK' => ?_)
                    obtain ⟨⟨z0, z1⟩, z2, z3⟩ := HC.out _ hu
                    go_simp
                    exact hK' _ _ ⟨rfl, Below.refl _ _⟩
                  | 23, ho =>
                    obtain rfl := Option.some.inj ho
                    have e2 : a.tmps[35]? = some (.bool true) := hd 2 rfl
                    have e22 : a.tmps[55]? = some (.string (Mt.str C)) := hd 22 rfl
                    clear hd ho hout
                    refine wpOp_step rfl (fun K' hK' => ?_)
                    go_simp
                    refine (HW2.out _).mono ?_
                    rintro e w2 ⟨rfl, hb⟩
                    exact hK' _ _ ⟨rfl, hb⟩
                  | 24, ho =>
                    obtain rfl := Option.some.inj ho
                    have e2 : a.tmps[35]? = some (.bool true) := hd 2 rfl
                    have e20 : a.tmps[53]? = some (.string (Mt.str A ++ ⟨#[61]⟩)) := hd 20 rfl
                    have e23 : a.tmps[56]? = some (.string (Mt.str (Mt.wrL C))) := hd 23 rfl
                    clear hd ho hout
                    refine wpOp_step rfl (fun K' hK' => ?_)
                    go_simp
                    exact hK' _ _ ⟨rfl, Below.refl _ _⟩
                  | 25, ho =>
                    obtain rfl := Option.some.inj ho
                    have e2 : a.tmps[35]? = some (.bool true) := hd 2 rfl
                    have e17 : a.tmps[50]? = some (.string (Mt.str y.1 ++ ⟨#[61]⟩ ++ Mt.str (Mt.wrL y.2))) := hd 17 rfl
                    have e24 : a.tmps[57]? = some (.string (Mt.str A ++ ⟨#[61]⟩ ++ Mt.str (Mt.wrL C))) := hd 24 rfl
                    clear hd ho hout
                    refine wpOp_step rfl (fun K' hK' => ?_)
                    go_simp
                    exact hK' _ _ ⟨rfl, Below.refl _ _⟩
                  | 26, ho =>
                    obtain rfl := Option.some.inj ho
                    have e2 : a.tmps[35]? = some (.bool true) := hd 2 rfl
                    have e25 : a.tmps[58]? = some (.bool (!z)) := hd 25 rfl
                    clear hd ho hout
                    refine wpOp_step rfl (fun K' hK' => ?_)
                    go_simp
                    exact hK' _ _ ⟨rfl, Below.refl _ _⟩
                  | i + 27, ho => cases ho
                case fin =>
                  intro w2 hb2
                  clear HSZ HF6 HF9 HF10 HW1 HW2 g1 g2 g3 g4 hd2 hd3
                  rw [← HF.out]
                  clear HF
                  have HLz := Lib.hid (HLk.out.below hb2)
                  have HBz := Lib.hid (HBX.out.trans (hb2.mono HBX.out.size))
                  have HKz : Hid (w2.heap[pb]? = some (.cells #[.string (Mt.str A), .string (Mt.str C)] 87) ∧ pb < w2.heap.size) := Lib.hid ⟨(hb2.block _ HKk.out.2).trans HKk.out.1, Nat.lt_of_lt_of_le HKk.out.2 hb2.size⟩
                  have hcap := (own_cells HLk.out).1
                  have HBw := Lib.hid (HBKK.out.trans (hb2.mono HBKK.out.size))
                  clear hb2 HC HLk HKk HBX
                  simp only [setFrom, List.setIfInBounds_toArray, List.set_cons_succ, List.set_cons_zero]
                  cases z with
                  | true =>
                    have HIN : Hid (Mt.InsOK l (A, C) (m + 1)) := Lib.hid ⟨by omega, fun _ h2 => by
                      have h3 := HZ1.out
                      rw [← HYY.out] at h3
                      exact h3, fun j h h2 => HK.out j h h2⟩
                    obtain ⟨wz, hwz⟩ : ∃ x, x = w2 := ⟨_, rfl⟩
                    subst hwz
                    clear hgt HZ1 HYY HK HBw
                    by_cases hce : c3 = m + 1
                    · have hln : l.length = m + 1 := by omega
                      subst hce
                      have src1 := src_take (own_cells HLz.out).2.2 (m + 1) (m + 1) (by omega)
                      obtain ⟨V0, hV0⟩ : ∃ V0, V0 = Value.slice none 0 0 := ⟨_, rfl⟩
                      have HV0 := Lib.hid hV0
                      have hv0 : IsOwn 87 2 wz.heap.size wz V0 0 (avs []) := by rw [hV0]; exact IsOwn.nil 87 2 wz.heap.size wz
                      clear hV0
                      obtain ⟨a4, c4, w4, hrun1, hown4, hb4⟩ := own_cat' (n1 := 0) (n3 := m + 1) (l1 := []) hv0 rfl (Nat.le_refl _) _ _ (n2 := m + 1) (by rw [List.length_take]; omega) src1 (by omega) (by omega)
                      rw [List.nil_append] at hown4
                      have hk4 := (hb4.block _ HKz.out.2).trans HKz.out.1
                      obtain ⟨x0, x1⟩ := box2_of hk4
                      obtain ⟨i0', hi', hz0', hz1', hz2'⟩ := info_parts Tryz.infoAva
                      obtain ⟨a5, c5, w5, hrun2, hown5, hb5⟩ := own_push (T := 89) (tx := 89) Tryz.underlying89 Tryz.underlying89 hi' hz0' hz1' hz2' rfl hown4 hb4.size (avs_one _) #[.string (Mt.str A), .string (Mt.str C)] rfl (by simp [Value.oneCell']) (by omega) (by omega)
                      have hw5 := hb4.trans hb5
                      have e5 : avs (l.take (m + 1)) ++ #[Value.string (Mt.str A), Value.string (Mt.str C)].toList = avs (l.take (m + 1) ++ [(A, C)]) := by rw [avs_append]; rfl
                      rw [e5] at hown5
                      have src2 : Src Tryz.prog 2 89 (.slice (some ⟨b3, off3, none⟩) 0 0) (l.drop (m + 1)).length (avs (l.drop (m + 1))) w5 := by
                        have h0 : l.drop (m + 1) = [] := List.drop_eq_nil_iff.2 (by omega)
                        rw [h0]
                        exact Src.ofSlice w5 Tryz.underlying89 ⟨b3, off3, none⟩ 0 0 [] rfl (fun j u hu => by simp at hu) (by simp)
                      obtain ⟨a6, c6, w6, hrun3, hown6, hb6⟩ := own_cat' (n3 := l.length + 1) hown5 (by rw [List.length_append, List.length_take]; simp only [List.length_cons, List.length_nil]; omega) (Nat.le_trans hb4.size hb5.size) _ _ (n2 := l.length - (m + 1)) (by rw [List.length_drop]) src2 (by omega) (by omega)
                      have HO6 : Hid (IsOwn 87 2 wo.heap.size w6 (.slice a6 (l.length + 1) c6) (l.length + 1) (avs (Mt.insA l (A, C) (m + 1)))) := Lib.hid (hown6.mono (HBz.out.size))
                      have HB6 : Hid (Below wo.heap.size wo w6) := Lib.hid (HBz.out.trans ((hw5.trans hb6).mono HBz.out.size))
                      have HR1 := Lib.hid hrun1
                      have HR2 := Lib.hid hrun2
                      have HR3 := Lib.hid hrun3
                      clear hv0 hown4 hown5 hown6 hb4 hb5 hb6 hw5 hk4 e5 src1 src2 hi' hz0' hz1' hz2' hrun1 hrun2 hrun3
                      clear hln
                      go_upto_region 13 with fail
                      go_upto_region 14 with fail
                      rw [← HV0.out]
                      have hrun1 := HR1.out
                      go_upto_region 15 with (refine wpList_append_run rfl (.tmp 62) (.tmp 65) 89 89 rfl V0 (.slice (some ⟨b3, off3, none⟩) (m + 1) (m + 1)) rfl rfl hrun1 ?_; clear hrun1)
                      have hrun2 := HR2.out
                      go_upto_region 16 with (refine wpList_append_run rfl (.tmp 67) (.tmp 69) 89 89 rfl (.slice a4 (m + 1) c4) (.slice (some ⟨w4.heap.size, 0, none⟩) 1 1) rfl rfl hrun2 ?_; clear hrun2)
                      have hrun3 := HR3.out
                      go_upto_region 17 with (refine wpList_append_run rfl (.tmp 71) (.tmp 74) 89 89 rfl (.slice a5 (m + 1 + 1) c5) (.slice (some ⟨b3, off3, none⟩) 0 0) rfl rfl hrun3 ?_; clear hrun3)
                      go_upto_region 18 with fail
                      rw [HV0.out]
                      go_wp2_with fail
                      have hlen : (Mt.insA l (A, C) (m + 1)).length = l.length + 1 := by have := (Mt.ins_perm l (A, C) (m + 1)).length_eq; simpa using this
                      exact ⟨⟨Mt.insA l (A, C) (m + 1), a6, c6, by rw [hlen]; go_num, by rw [hlen], by rw [hlen]; omega, by rw [hlen]; exact HO6, Lib.hid ⟨Mt.ins_sorted HS.out.1 HIN.out, by rw [hlen]; exact Mt.ins_step hklt (by rw [HAV.out]; exact HPL.out.1) HS.out.2⟩, HB6⟩, by simp only [intOf]; omega⟩
                    · have hcn : ¬ (c3 - (m + 1) = 0) := by omega
                      have src1 := src_take (own_cells HLz.out).2.2 (m + 1) c3 (by omega)
                      obtain ⟨V0, hV0⟩ : ∃ V0, V0 = Value.slice none 0 0 := ⟨_, rfl⟩
                      have HV0 := Lib.hid hV0
                      have hv0 : IsOwn 87 2 wz.heap.size wz V0 0 (avs []) := by rw [hV0]; exact IsOwn.nil 87 2 wz.heap.size wz
                      clear hV0
                      obtain ⟨a4, c4, w4, hrun1, hown4, hb4⟩ := own_cat' (n1 := 0) (n3 := m + 1) (l1 := []) hv0 rfl (Nat.le_refl _) _ _ (n2 := m + 1) (by rw [List.length_take]; omega) src1 (by omega) (by omega)
                      rw [List.nil_append] at hown4
                      have hk4 := (hb4.block _ HKz.out.2).trans HKz.out.1
                      obtain ⟨x0, x1⟩ := box2_of hk4
                      obtain ⟨i0', hi', hz0', hz1', hz2'⟩ := info_parts Tryz.infoAva
                      obtain ⟨a5, c5, w5, hrun2, hown5, hb5⟩ := own_push (T := 89) (tx := 89) Tryz.underlying89 Tryz.underlying89 hi' hz0' hz1' hz2' rfl hown4 hb4.size (avs_one _) #[.string (Mt.str A), .string (Mt.str C)] rfl (by simp [Value.oneCell']) (by omega) (by omega)
                      have hw5 := hb4.trans hb5
                      have e5 : avs (l.take (m + 1)) ++ #[Value.string (Mt.str A), Value.string (Mt.str C)].toList = avs (l.take (m + 1) ++ [(A, C)]) := by rw [avs_append]; rfl
                      rw [e5] at hown5
                      have src2 := src_drop (own_cells (HLz.out.below hw5)).2.2 (m + 1) (c3 - (m + 1))
                      obtain ⟨a6, c6, w6, hrun3, hown6, hb6⟩ := own_cat' (n3 := l.length + 1) hown5 (by rw [List.length_append, List.length_take]; simp only [List.length_cons, List.length_nil]; omega) (Nat.le_trans hb4.size hb5.size) _ _ (n2 := l.length - (m + 1)) (by rw [List.length_drop]) src2 (by omega) (by omega)
                      have HO6 : Hid (IsOwn 87 2 wo.heap.size w6 (.slice a6 (l.length + 1) c6) (l.length + 1) (avs (Mt.insA l (A, C) (m + 1)))) := Lib.hid (hown6.mono (HBz.out.size))
                      have HB6 : Hid (Below wo.heap.size wo w6) := Lib.hid (HBz.out.trans ((hw5.trans hb6).mono HBz.out.size))
                      have HR1 := Lib.hid hrun1
                      have HR2 := Lib.hid hrun2
                      have HR3 := Lib.hid hrun3
                      clear hv0 hown4 hown5 hown6 hb4 hb5 hb6 hw5 hk4 e5 src1 src2 hi' hz0' hz1' hz2' hrun1 hrun2 hrun3
                      go_upto_region 13 with fail
                      go_upto_region 14 with fail
                      rw [← HV0.out]
                      have hrun1 := HR1.out
                      go_upto_region 15 with (refine wpList_append_run rfl (.tmp 62) (.tmp 65) 89 89 rfl V0 (.slice (some ⟨b3, off3, none⟩) (m + 1) c3) rfl rfl hrun1 ?_; clear hrun1)
                      have hrun2 := HR2.out
                      go_upto_region 16 with (refine wpList_append_run rfl (.tmp 67) (.tmp 69) 89 89 rfl (.slice a4 (m + 1) c4) (.slice (some ⟨w4.heap.size, 0, none⟩) 1 1) rfl rfl hrun2 ?_; clear hrun2)
                      have hrun3 := HR3.out
                      go_upto_region 17 with (refine wpList_append_run rfl (.tmp 71) (.tmp 74) 89 89 rfl (.slice a5 (m + 1 + 1) c5) (.slice (some ⟨b3, off3 + (m + 1) * 2, none⟩) (l.length - (m + 1)) (c3 - (m + 1))) rfl rfl hrun3 ?_; clear hrun3)
                      go_upto_region 18 with fail
                      rw [HV0.out]
                      go_wp2_with fail
                      have hlen : (Mt.insA l (A, C) (m + 1)).length = l.length + 1 := by have := (Mt.ins_perm l (A, C) (m + 1)).length_eq; simpa using this
                      exact ⟨⟨Mt.insA l (A, C) (m + 1), a6, c6, by rw [hlen]; go_num, by rw [hlen], by rw [hlen]; omega, by rw [hlen]; exact HO6, Lib.hid ⟨Mt.ins_sorted HS.out.1 HIN.out, by rw [hlen]; exact Mt.ins_step hklt (by rw [HAV.out]; exact HPL.out.1) HS.out.2⟩, HB6⟩, by simp only [intOf]; omega⟩
                  | false =>
                    have hm2 : Hid (∀ j (h : j < l.length), m ≤ j → Mt.leB (Mt.avL l[j]) (Mt.avL (A, C)) = false) := Lib.hid (fun j h h2 => by
                      by_cases e : j = m
                      · subst e
                        have h3 := HZ1.out
                        rw [← HYY.out] at h3
                        exact h3
                      · exact HK.out j h (by omega))
                    clear HLz HBz HKz hgt HZ1 HYY HK hwr
                    go_wp2_with fail
                    exact ⟨⟨m, rfl, by omega, hm2, HBw⟩, by simp only [intOf]; omega⟩
        · have HLR : Hid (Mt.speltL l = Mt.normL r) := Lib.hid (by
            refine Mt.ins_norm HS.out.1 ?_
            have h := HS.out.2
            rw [List.take_of_length_le (by omega)] at h
            exact h)
          have HLG : Hid (Mt.GoodR l) := Lib.hid (by
            refine ⟨by have := HGR.out.1; omega, fun x hx => ?_⟩
            have h := HS.out.2.mem_iff.1 hx
            rw [List.mem_map] at h
            obtain ⟨y, hy, rfl⟩ := h
            have := HGR.out.2 y (List.mem_of_mem_take hy)
            refine ⟨by simp [Mt.plainA, Mt.foldL]; omega, ?_⟩
            have h2 := Mt.prep_length y.2
            show (Mt.prep y.2).length ≤ 4096
            omega)
          have HD32 := Lib.hid HG.out.1
          obtain ⟨g, xs, hg, hrw, hds⟩ := HO.out
          obtain ⟨a6, c6, w6, g6, xs6, hrun2, hrw6, hds6, hg6, hb6⟩ := dn_step hrw hds rfl hg HB.out.size (HL.out.rdnB (by have := HGR.out.1; omega)) HBI.out (by have := HD.out.1; have := HD32.out; omega)
          have HO6 := Lib.hid (And.intro hg6 (And.intro hrw6 hds6))
          have HB6 := Lib.hid ((HB.out.trans (HBI.out.mono HB.out.size)).trans hb6)
          clear hrw hds hrw6 hds6 hb6 hg6 hg
          go_wp2_with (refine wpList_append_run rfl (.tmp 78) (.tmp 80) 23 23 rfl (.slice a2 D.length c2) (.slice (some ⟨wr.heap.size, 0, none⟩) 1 1) rfl rfl hrun2 ?_; clear hrun2)
          go_roundw
          case rel => exact ⟨j + 1, D ++ [l], a6, c6, by go_num, by rw [List.length_append]; rfl, by omega, by rw [List.length_append]; exact Lib.hid ⟨g6, xs6, HO6.out⟩, Lib.hid ⟨by rw [List.length_append, HD.out.1]; rfl, by rw [HTK.out, List.map_append, List.map_append, HD.out.2.1]; show _ ++ [Mt.speltL l] = _ ++ [Mt.normL r]; rw [HLR.out], fun q hq => by
            rcases List.mem_append.1 hq with hq | hq
            · exact HD.out.2.2 q hq
            · rw [List.mem_singleton] at hq; subst hq; exact HLG.out⟩, HB6⟩
          case measure => simp [intOf]; omega
    · have HF : Hid (D.map Mt.speltL = d.map Mt.normL ∧ D.length ≤ 32) := Lib.hid ⟨by have h := HD.out.2.1; rw [List.take_of_length_le (by omega)] at h; exact h, by have := HD.out.1; have := HG.out.1; omega⟩
      go_wp2_with fail
      go_ret
      obtain ⟨g, xs, hg, hrw, hds⟩ := HO.out
      exact ⟨_, D, rfl, IsRw.dn hrw hds (by have := HF.out.2; omega), HF.out.1, ⟨HF.out.2, HD.out.2.2⟩, HB.out⟩
end Go.Proofs.YtngdbhncafnliaaGreat
