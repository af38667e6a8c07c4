/-
  Some texts of one proof, one behind the other.
-/
import Derived.Test.YtngdbhncafnliaaGreatRows
import Derived.ProofKit
import Derived.SizedLaws
import Derived.OpenShut
import Derived.Test.YtngdbhncafnliaaGreatPk47
import Derived.Test.YtngdbhncafnliaaGreatPk48
set_option linter.unusedVariables false
set_option linter.unusedSimpArgs false

/-
  The chapter's example.
-/
namespace Go.Proofs.YtngdbhncafnliaaGreat
open Go.RowKit
set_option linter.unusedVariables false

namespace Mt
/-- cn=.., dc=z. -/
def nameD (s : List UInt8) : List (List Av) := [[([99, 110], s)], [([100, 99], [122])]]
def kyN (s : List UInt8) : List UInt8 := [99, 110, 61] ++ wrL (prep s) ++ [44, 100, 99, 61, 122]
theorem norm_one (a : Av) : normL [a] = [avL (plainA a)] := by
  unfold normL
  rw [List.mergeSort_of_pairwise (by simp)]; rfl
theorem ky_name (s : List UInt8) : kyL (nameD s) = kyN s := by
  unfold kyL textL nameD
  simp only [List.map_cons, List.map_nil, norm_one]
  have h1 : avL (plainA ([100, 99], [122])) = [100, 99, 61, 122] := by decide +kernel
  have h2 : avL (plainA ([99, 110], s)) = [99, 110, 61] ++ wrL (prep s) := by
    unfold avL plainA
    have : foldL [99, 110] = [99, 110] := by decide +kernel
    simp only [this]; rfl
  rw [h1, h2]
  unfold kyN
  simp [List.intercalate, List.intersperse]
theorem same_name (x y : List UInt8) : sameA (nameD x) (nameD y) = (okP (nameD x) && okP (nameD y) && decide (kyN x = kyN y)) := by unfold sameA; rw [ky_name, ky_name]
def aUP : List UInt8 := [117, 115, 101, 114, 80, 97, 115, 115, 119, 111, 114, 100]
def aup : List UInt8 := [117, 115, 101, 114, 112, 97, 115, 115, 119, 111, 114, 100]
def aRoot : List UInt8 := [114, 111, 111, 116]
def aRules : List Ru := [⟨2, [], [], aUP, 8, true⟩, ⟨0, [], [], aUP, 15, false⟩, ⟨1, [], [], [], 7, true⟩]
theorem aw_chk : rchkA core (nameD aRoot) aRules = 0 := by decide +kernel
theorem new_err {s : Sc} {admin : List (List Av)} {rs : List Ru} {e : Nat} (h : newA s admin rs = .error e) : 0 < e := by
  unfold newA at h
  cases hk : keyD admin with
  | error x => rw [hk] at h; cases h; exact key_err hk
  | ok k =>
    rw [hk] at h
    have hF : ∀ (l acc : List Ru), rdF s acc l = .error e → 0 < e := by
      intro l
      induction l with
      | nil => intro acc h; unfold rdF at h; cases h
      | cons r t ih =>
        intro acc h
        unfold rdF at h
        cases hr : rdRu s r with
        | error x => rw [hr] at h; cases h; exact rdRu_err hr
        | ok c => rw [hr] at h; exact ih _ h
    exact hF _ _ h
theorem new_ok {s : Sc} {admin : List (List Av)} {rs : List Ru} (h : rchkA s admin rs = 0) : ∃ cs, newA s admin rs = .ok cs := by
  cases hn : newA s admin rs with
  | ok cs => exact ⟨cs, rfl⟩
  | error e =>
    have h1 := new_chk s admin rs
    rw [hn, h] at h1
    have h2 := new_err hn
    have h3 : e = 0 := h1
    omega
theorem aw1 : rmayA (nameD aRoot) aRules (nameD [97]) (nameD [65]) aup 8 = true := by
  unfold rmayA findA
  simp only [speaksA, same_name]
  decide +kernel
theorem aw2 : rmayA (nameD aRoot) aRules (nameD [97]) (nameD [97]) aUP 2 = false := by
  unfold rmayA findA
  simp only [speaksA, same_name]
  decide +kernel
theorem aw3 : rmayA (nameD aRoot) aRules (nameD [97]) (nameD [98]) aUP 8 = false := by
  unfold rmayA findA
  simp only [speaksA, same_name]
  decide +kernel
theorem aw4 : rmayA (nameD aRoot) aRules (nameD [97]) (nameD [98]) [99, 110] 2 = true := by
  unfold rmayA findA
  simp only [speaksA, same_name]
  decide +kernel
theorem aw5 : rmayA (nameD aRoot) aRules [] (nameD [98]) [99, 110] 2 = false := by
  unfold rmayA findA
  simp only [speaksA]
  decide +kernel
theorem aw6 : rmayA (nameD aRoot) aRules (nameD aRoot) (nameD [98]) aUP 8 = true := by
  unfold rmayA findA
  simp only [speaksA, same_name]
  decide +kernel
end Mt
theorem rus_of_row {u : World} {g : Nat} {l : List Mt.Ru} {cs : Array Value} {T : TypeId} (h : u.heap[g]? = some (.cells cs T)) (hc : cs = (ruCells l).toArray) : IsRus u (.slice (some ⟨g, 0, none⟩) l.length l.length) l := by
  refine ⟨_, _, rfl, Nat.le_refl _, Lib.hid fun j hj => ?_⟩
  obtain ⟨c0, c1, c2, c3, c4, c5⟩ := ruCells_get l j hj
  have get : ∀ k, u.cell? ⟨g, 0 + j * 6 + k, none⟩ = (ruCells l)[j * 6 + k]? := fun k => by
    rw [cell_of_row _ _ _ _ _ _ h, hc, List.getElem?_toArray, Nat.zero_add]
  exact ⟨g, 0, rfl, lt_of_block h, (get 0).trans c0, (get 1).trans c1, (get 2).trans c2, (get 3).trans c3, (get 4).trans c4, (get 5).trans c5⟩
theorem isDn_name {u : World} {b1 b2 b3 : Nat} (s : List UInt8) (h1 : u.heap[b1]? = some (.cells #[.string (Mt.str [99, 110]), .string (Mt.str s)] 87)) (h2 : u.heap[b2]? = some (.cells #[.string (Mt.str [100, 99]), .string (Mt.str [122])] 87)) (h3 : u.heap[b3]? = some (.cells #[.slice (some ⟨b1, 0, none⟩) 1 1, .slice (some ⟨b2, 0, none⟩) 1 1] 89)) : IsDn u (.slice (some ⟨b3, 0, none⟩) 2 2) (Mt.nameD s) := by
  have avs1 : ∀ (b : Nat) (x y : List UInt8), u.heap[b]? = some (.cells #[.string (Mt.str x), .string (Mt.str y)] 87) → IsAvs u (.slice (some ⟨b, 0, none⟩) 1 1) [(x, y)] := fun b x y h => by
    refine ⟨_, 1, rfl, by simp, by simp, .inr ⟨b, 0, rfl, lt_of_block h, fun j hj => ?_⟩⟩
    have hj0 : j = 0 := by simp at hj; omega
    subst hj0
    exact ⟨by rw [cell_of_row _ _ _ _ _ _ h]; rfl, by rw [cell_of_row _ _ _ _ _ _ h]; rfl⟩
  refine ⟨_, 2, rfl, by simp [Mt.nameD], by simp [Mt.nameD], .inr ⟨b3, 0, rfl, lt_of_block h3, fun i hi => ?_⟩⟩
  have hi2 : i = 0 ∨ i = 1 := by simp [Mt.nameD] at hi; omega
  rcases hi2 with rfl | rfl
  · exact ⟨_, by rw [cell_of_row _ _ _ _ _ _ h3]; rfl, avs1 b1 _ _ h1⟩
  · exact ⟨_, by rw [cell_of_row _ _ _ _ _ _ h3]; rfl, avs1 b2 _ _ h2⟩
set_option maxRecDepth 100000 in
theorem name22_any (s : List UInt8) (w : World) : Calls Tryz.prog 21 #[.string (Mt.str s)] w fun e w' => ∃ a n c, e = .returned (.slice a n c) ∧ IsDn w' (.slice a n c) (Mt.nameD s) ∧ Below w.heap.size w w' := by
  have e1 : Mt.str [99, 110] = ⟨#[99, 110]⟩ := rfl
  have e2 : Mt.str [100, 99] = ⟨#[100, 99]⟩ := rfl
  have e3 : Mt.str [122] = ⟨#[122]⟩ := rfl
  have HI := Lib.hid (fun (u : World) (b1 b2 b3 : Nat) => isDn_name (u := u) (b1 := b1) (b2 := b2) (b3 := b3) s)
  rw [e1, e2, e3] at HI
  generalize Mt.str s = SB at *
  obtain ⟨w1, hw1⟩ : ∃ u, w.alloc (.cells #[.string ⟨#[99, 110]⟩, .string SB] 87) = u := ⟨_, rfl⟩
  obtain ⟨w2, hw2⟩ : ∃ u, w1.alloc (.cells #[.string ⟨#[100, 99]⟩, .string ⟨#[122]⟩] 87) = u := ⟨_, rfl⟩
  obtain ⟨w3, hw3⟩ : ∃ u, w2.alloc (.cells #[.slice (some ⟨w.heap.size, 0, none⟩) 1 1, .slice (some ⟨w1.heap.size, 0, none⟩) 1 1] 89) = u := ⟨_, rfl⟩
  have s1 : w1.heap.size = w.heap.size + 1 := by rw [← hw1]; simp
  have s2 : w2.heap.size = w.heap.size + 2 := by rw [← hw2]; simp [s1]
  have a1 : Below w.heap.size w w1 := by rw [← hw1]; exact (Below.refl _ w).alloc (Nat.le_refl _) _
  have a2 : Below w1.heap.size w1 w2 := by rw [← hw2]; exact (Below.refl _ w1).alloc (Nat.le_refl _) _
  have a3 : Below w2.heap.size w2 w3 := by rw [← hw3]; exact (Below.refl _ w2).alloc (Nat.le_refl _) _
  have r1 : w3.heap[w.heap.size]? = some (.cells #[.string ⟨#[99, 110]⟩, .string SB] 87) := (a3.block _ (by omega)).trans ((a2.block _ (by omega)).trans (by rw [← hw1]; exact heap_alloc_new w _))
  have r2 : w3.heap[w1.heap.size]? = some (.cells #[.string ⟨#[100, 99]⟩, .string ⟨#[122]⟩] 87) := (a3.block _ (by omega)).trans (by rw [← hw2]; exact heap_alloc_new w1 _)
  have r3 : w3.heap[w2.heap.size]? = some (.cells #[.slice (some ⟨w.heap.size, 0, none⟩) 1 1, .slice (some ⟨w1.heap.size, 0, none⟩) 1 1] 89) := by rw [← hw3]; exact heap_alloc_new w2 _
  have HD := Lib.hid (HI.out w3 _ _ _ r1 r2 r3)
  have HB := Lib.hid (a1.trans ((a2.mono (by omega)).trans (a3.mono (by omega))))
  clear r1 r2 r3 a1 a2 a3 e1 e2 e3 HI s1 s2
  go_enter Tryz.func21, Tryz.ntmps21
  go_wp2_with fail
  all_goals (go_ret; exact ⟨_, _, _, rfl, by first | exact HD.out | (rw [hw3] at *; exact HD.out), by first | exact HB.out | (rw [hw3] at *; exact HB.out)⟩)
end Go.Proofs.YtngdbhncafnliaaGreat

/-
  What castellanlaw22.awake comes to.
-/
namespace Go.Proofs.YtngdbhncafnliaaGreat
open Go.RowKit
set_option linter.unusedVariables false

theorem ruCells_aw : (ruCells Mt.aRules).toArray = #[.int .i64 2, .string ⟨#[]⟩, .string ⟨#[]⟩, .string ⟨#[117, 115, 101, 114, 80, 97, 115, 115, 119, 111, 114, 100]⟩, .int .i64 8, .bool true, .int .i64 0, .string ⟨#[]⟩, .string ⟨#[]⟩, .string ⟨#[117, 115, 101, 114, 80, 97, 115, 115, 119, 111, 114, 100]⟩, .int .i64 15, .bool false, .int .i64 1, .string ⟨#[]⟩, .string ⟨#[]⟩, .string ⟨#[]⟩, .int .i64 7, .bool true] := rfl
theorem Mt.aw_fit : ∀ r ∈ Mt.aRules, Mt.FitRu r := by
  intro r hr
  simp only [Mt.aRules, List.mem_cons, List.not_mem_nil, or_false] at hr
  rcases hr with rfl | rfl | rfl <;> exact ⟨by decide, by decide, by decide⟩
set_option maxRecDepth 100000 in
set_option maxHeartbeats 4000000 in
theorem awake22_any (w : World) : Calls Tryz.prog 9 #[] w fun e w' => e = .returned (.bool true) ∧ Below w.heap.size w w' := by
  have HCO := Lib.hid (rcore13_any w)
  have HNM := Lib.hid (fun (s : List UInt8) (u : World) => name22_any s u)
  obtain ⟨cs, hcs⟩ := Mt.new_ok Mt.aw_chk
  have HNW := Lib.hid (fun (u : World) (tv cv av rv : Value) (h : IsSc u tv cv Mt.core) (ha : IsDn u av (Mt.nameD Mt.aRoot)) (hr : IsRus u rv Mt.aRules) => new22_any h ha hr Mt.aw_fit (by decide))
  rw [hcs] at HNW
  have HMY : Hid (∀ (u : World) (bv v1 v2 : Value) (d1 d2 : List (List Mt.Av)) (a : List UInt8) (right : Int), IsBk u bv cs → IsDn u v1 d1 → IsDn u v2 d2 → d1.length ≤ 140737488355327 → d2.length ≤ 140737488355327 → a.length ≤ 140737488351232 → Calls Tryz.prog 13 #[bv, v1, v2, .string (Mt.str a), .int .i64 right] u fun e w' => e = .returned (.bool (Mt.rmayA (Mt.nameD Mt.aRoot) Mt.aRules d1 d2 a right)) ∧ Below u.heap.size u w') := Lib.hid (fun u bv v1 v2 d1 d2 a right hb h1 h2 hl1 hl2 ha => by
    rw [← Mt.may_eq hcs]; exact may22_any right hb h1 h2 hl1 hl2 a ha)
  clear hcs
  have HN0 := Lib.hid (fun u => HNM.out Mt.aRoot u)
  have hn0 : Mt.str Mt.aRoot = ⟨#[114, 111, 111, 116]⟩ := rfl
  rw [hn0] at HN0
  have HNa := Lib.hid (fun u => HNM.out [97] u)
  have hna : Mt.str [97] = ⟨#[97]⟩ := rfl
  rw [hna] at HNa
  have HNA := Lib.hid (fun u => HNM.out [65] u)
  have hnA : Mt.str [65] = ⟨#[65]⟩ := rfl
  rw [hnA] at HNA
  have HNb := Lib.hid (fun u => HNM.out [98] u)
  have hnb : Mt.str [98] = ⟨#[98]⟩ := rfl
  rw [hnb] at HNb
  clear hn0 hna hnA hnb HNM
  go_enter Tryz.func9, Tryz.ntmps9
  go_wp2_with fail
  refine (HCO.out).mono ?_
  rintro e w1 ⟨tv, cv, rfl, hsc, hb⟩
  have HB1 := Lib.hid hb
  have HSC := Lib.hid hsc
  obtain ⟨ta, tcap, hv1, -, -⟩ := hsc.types
  obtain ⟨ca, ccap, hv2, -, -⟩ := hsc.classes
  subst hv1 hv2
  generalize Mt.core.types.length = tn at *
  generalize Mt.core.classes.length = cn at *
  clear hb hsc
  go_wp2_with fail
  refine (HN0.out _).mono ?_
  rintro e w2 ⟨na, nn, nc, rfl, hn, hb⟩
  have HB2 := Lib.hid (HB1.out.trans (hb.mono HB1.out.size))
  have HSC2 := Lib.hid (HSC.out.below hb)
  have HN2 := Lib.hid hn
  clear hb hn
  obtain ⟨w3, hw3⟩ : ∃ u, w2.alloc (.cells #[.int .i64 2, .string ⟨#[]⟩, .string ⟨#[]⟩, .string ⟨#[117, 115, 101, 114, 80, 97, 115, 115, 119, 111, 114, 100]⟩, .int .i64 8, .bool true, .int .i64 0, .string ⟨#[]⟩, .string ⟨#[]⟩, .string ⟨#[117, 115, 101, 114, 80, 97, 115, 115, 119, 111, 114, 100]⟩, .int .i64 15, .bool false, .int .i64 1, .string ⟨#[]⟩, .string ⟨#[]⟩, .string ⟨#[]⟩, .int .i64 7, .bool true] 54) = u := ⟨_, rfl⟩
  have h3 : Below w2.heap.size w2 w3 := by rw [← hw3]; exact (Below.refl _ w2).alloc (Nat.le_refl _) _
  have hrow3 : w3.heap[w2.heap.size]? = some (.cells #[.int .i64 2, .string ⟨#[]⟩, .string ⟨#[]⟩, .string ⟨#[117, 115, 101, 114, 80, 97, 115, 115, 119, 111, 114, 100]⟩, .int .i64 8, .bool true, .int .i64 0, .string ⟨#[]⟩, .string ⟨#[]⟩, .string ⟨#[117, 115, 101, 114, 80, 97, 115, 115, 119, 111, 114, 100]⟩, .int .i64 15, .bool false, .int .i64 1, .string ⟨#[]⟩, .string ⟨#[]⟩, .string ⟨#[]⟩, .int .i64 7, .bool true] 54) := by rw [← hw3]; exact heap_alloc_new w2 _
  have hru := rus_of_row (l := Mt.aRules) hrow3 ruCells_aw.symm
  have HB3 := Lib.hid (HB2.out.trans (h3.mono HB2.out.size))
  have HC3 := Lib.hid (HNW.out w3 _ _ _ _ (HSC2.out.below h3) (HN2.out.below h3) hru)
  clear h3 hrow3 hru
  go_wp2_with fail
  refine (HC3.out).mono ?_
  rintro e w4 ⟨⟨bv, rfl, hbk⟩, hb⟩
  have HB4 := Lib.hid (HB3.out.trans (hb.mono HB3.out.size))
  have HBK4 := Lib.hid hbk
  obtain ⟨p, bcv, rfl, -, -, -⟩ := hbk
  clear hb
  -- aw1
  go_wp2_with fail
  refine (HNa.out _).mono ?_
  rintro e w5 ⟨a1, n1, c1, rfl, hn, hb⟩
  have HB5 := Lib.hid (HB4.out.trans (hb.mono HB4.out.size))
  have HBK5 := Lib.hid (HBK4.out.below hb)
  have HD1 := Lib.hid hn
  clear hb hn
  go_wp2_with fail
  refine (HNA.out _).mono ?_
  rintro e w6 ⟨a2, n2, c2, rfl, hn, hb⟩
  have HB6 := Lib.hid (HB5.out.trans (hb.mono HB5.out.size))
  have HBK6 := Lib.hid (HBK5.out.below hb)
  have HD2 := Lib.hid hn
  have HD12 := Lib.hid (HD1.out.below hb)
  clear hb hn
  have hm := HMY.out w6 _ _ _ (Mt.nameD [97]) (Mt.nameD [65]) Mt.aup 8 HBK6.out HD12.out HD2.out (by decide) (by decide) (by decide)
  rw [Mt.aw1] at hm
  have hs : Mt.str Mt.aup = ⟨#[117, 115, 101, 114, 112, 97, 115, 115, 119, 111, 114, 100]⟩ := rfl
  rw [hs] at hm
  have HM := Lib.hid hm
  clear hm hs
  go_wp2_with fail
  refine (HM.out).mono ?_
  rintro e w7 ⟨rfl, hb⟩
  have HB7 := Lib.hid (HB6.out.trans (hb.mono HB6.out.size))
  have HBK7 := Lib.hid (HBK6.out.below hb)
  clear hb HD2 HD12 HM HD1
  -- aw2
  go_wp2_with fail
  refine (HNa.out _).mono ?_
  rintro e w8 ⟨a1, n1, c1, rfl, hn, hb⟩
  have HB8 := Lib.hid (HB7.out.trans (hb.mono HB7.out.size))
  have HBK8 := Lib.hid (HBK7.out.below hb)
  have HD1 := Lib.hid hn
  clear hb hn
  go_wp2_with fail
  refine (HNa.out _).mono ?_
  rintro e w9 ⟨a2, n2, c2, rfl, hn, hb⟩
  have HB9 := Lib.hid (HB8.out.trans (hb.mono HB8.out.size))
  have HBK9 := Lib.hid (HBK8.out.below hb)
  have HD2 := Lib.hid hn
  have HD12 := Lib.hid (HD1.out.below hb)
  clear hb hn
  have hm := HMY.out w9 _ _ _ (Mt.nameD [97]) (Mt.nameD [97]) Mt.aUP 2 HBK9.out HD12.out HD2.out (by decide) (by decide) (by decide)
  rw [Mt.aw2] at hm
  have hs : Mt.str Mt.aUP = ⟨#[117, 115, 101, 114, 80, 97, 115, 115, 119, 111, 114, 100]⟩ := rfl
  rw [hs] at hm
  have HM := Lib.hid hm
  clear hm hs
  go_wp2_with fail
  refine (HM.out).mono ?_
  rintro e w10 ⟨rfl, hb⟩
  have HB10 := Lib.hid (HB9.out.trans (hb.mono HB9.out.size))
  have HBK10 := Lib.hid (HBK9.out.below hb)
  clear hb HD2 HD12 HM HD1
  -- aw3
  go_wp2_with fail
  refine (HNa.out _).mono ?_
  rintro e w11 ⟨a1, n1, c1, rfl, hn, hb⟩
  have HB11 := Lib.hid (HB10.out.trans (hb.mono HB10.out.size))
  have HBK11 := Lib.hid (HBK10.out.below hb)
  have HD1 := Lib.hid hn
  clear hb hn
  go_wp2_with fail
  refine (HNb.out _).mono ?_
  rintro e w12 ⟨a2, n2, c2, rfl, hn, hb⟩
  have HB12 := Lib.hid (HB11.out.trans (hb.mono HB11.out.size))
  have HBK12 := Lib.hid (HBK11.out.below hb)
  have HD2 := Lib.hid hn
  have HD12 := Lib.hid (HD1.out.below hb)
  clear hb hn
  have hm := HMY.out w12 _ _ _ (Mt.nameD [97]) (Mt.nameD [98]) Mt.aUP 8 HBK12.out HD12.out HD2.out (by decide) (by decide) (by decide)
  rw [Mt.aw3] at hm
  have hs : Mt.str Mt.aUP = ⟨#[117, 115, 101, 114, 80, 97, 115, 115, 119, 111, 114, 100]⟩ := rfl
  rw [hs] at hm
  have HM := Lib.hid hm
  clear hm hs
  go_wp2_with fail
  refine (HM.out).mono ?_
  rintro e w13 ⟨rfl, hb⟩
  have HB13 := Lib.hid (HB12.out.trans (hb.mono HB12.out.size))
  have HBK13 := Lib.hid (HBK12.out.below hb)
  clear hb HD2 HD12 HM HD1
  -- aw4
  go_wp2_with fail
  refine (HNa.out _).mono ?_
  rintro e w14 ⟨a1, n1, c1, rfl, hn, hb⟩
  have HB14 := Lib.hid (HB13.out.trans (hb.mono HB13.out.size))
  have HBK14 := Lib.hid (HBK13.out.below hb)
  have HD1 := Lib.hid hn
  clear hb hn
  go_wp2_with fail
  refine (HNb.out _).mono ?_
  rintro e w15 ⟨a2, n2, c2, rfl, hn, hb⟩
  have HB15 := Lib.hid (HB14.out.trans (hb.mono HB14.out.size))
  have HBK15 := Lib.hid (HBK14.out.below hb)
  have HD2 := Lib.hid hn
  have HD12 := Lib.hid (HD1.out.below hb)
  clear hb hn
  have hm := HMY.out w15 _ _ _ (Mt.nameD [97]) (Mt.nameD [98]) [99, 110] 2 HBK15.out HD12.out HD2.out (by decide) (by decide) (by decide)
  rw [Mt.aw4] at hm
  have hs : Mt.str [99, 110] = ⟨#[99, 110]⟩ := rfl
  rw [hs] at hm
  have HM := Lib.hid hm
  clear hm hs
  go_wp2_with fail
  refine (HM.out).mono ?_
  rintro e w16 ⟨rfl, hb⟩
  have HB16 := Lib.hid (HB15.out.trans (hb.mono HB15.out.size))
  have HBK16 := Lib.hid (HBK15.out.below hb)
  clear hb HD2 HD12 HM HD1
  -- aw5
  go_wp2_with fail
  refine (HNb.out _).mono ?_
  rintro e w17 ⟨a2, n2, c2, rfl, hn, hb⟩
  have HB17 := Lib.hid (HB16.out.trans (hb.mono HB16.out.size))
  have HBK17 := Lib.hid (HBK16.out.below hb)
  have HD2 := Lib.hid hn
  have HD12 := Lib.hid (IsDn.nil w17)
  clear hb hn
  have hm := HMY.out w17 _ _ _ [] (Mt.nameD [98]) [99, 110] 2 HBK17.out HD12.out HD2.out (by decide) (by decide) (by decide)
  rw [Mt.aw5] at hm
  have hs : Mt.str [99, 110] = ⟨#[99, 110]⟩ := rfl
  rw [hs] at hm
  have HM := Lib.hid hm
  clear hm hs
  go_wp2_with fail
  refine (HM.out).mono ?_
  rintro e w18 ⟨rfl, hb⟩
  have HB18 := Lib.hid (HB17.out.trans (hb.mono HB17.out.size))
  have HBK18 := Lib.hid (HBK17.out.below hb)
  clear hb HD2 HD12 HM
  -- aw6
  go_wp2_with fail
  refine (HN0.out _).mono ?_
  rintro e w19 ⟨a1, n1, c1, rfl, hn, hb⟩
  have HB19 := Lib.hid (HB18.out.trans (hb.mono HB18.out.size))
  have HBK19 := Lib.hid (HBK18.out.below hb)
  have HD1 := Lib.hid hn
  clear hb hn
  go_wp2_with fail
  refine (HNb.out _).mono ?_
  rintro e w20 ⟨a2, n2, c2, rfl, hn, hb⟩
  have HB20 := Lib.hid (HB19.out.trans (hb.mono HB19.out.size))
  have HBK20 := Lib.hid (HBK19.out.below hb)
  have HD2 := Lib.hid hn
  have HD12 := Lib.hid (HD1.out.below hb)
  clear hb hn
  have hm := HMY.out w20 _ _ _ (Mt.nameD Mt.aRoot) (Mt.nameD [98]) Mt.aUP 8 HBK20.out HD12.out HD2.out (by decide) (by decide) (by decide)
  rw [Mt.aw6] at hm
  have hs : Mt.str Mt.aUP = ⟨#[117, 115, 101, 114, 80, 97, 115, 115, 119, 111, 114, 100]⟩ := rfl
  rw [hs] at hm
  have HM := Lib.hid hm
  clear hm hs
  go_wp2_with fail
  refine (HM.out).mono ?_
  rintro e w21 ⟨rfl, hb⟩
  have HB21 := Lib.hid (HB20.out.trans (hb.mono HB20.out.size))
  have HBK21 := Lib.hid (HBK20.out.below hb)
  clear hb HD2 HD12 HM HD1
  go_wp2_with fail
  all_goals (go_ret; exact ⟨by first | rfl | simp, HB21.out⟩)
end Go.Proofs.YtngdbhncafnliaaGreat

/-
  What came in, opened: names, rules of access, attributes; a case of layer 22.
-/
namespace Go.Proofs.YtngdbhncafnliaaGreat
open Go.RowKit Go.Deep Go.ChangeShapes Go.WideShapes Go.ChangeAt
set_option linter.unusedVariables false

set_option maxRecDepth 100000 in
/-- A name that came in within something. -/
theorem open_dnF {H : Type} {enc : TypeId × Value → H} {W : World} {fu : Nat} {cs : List Value} {x : DataW H × List MemPlace} (hf : DataW.trod enc Tryz.prog W 0 (fun _ => true) true fu 23 cs = some x)
    (hw : ∀ k ∈ x.1.weights Tryz.prog 23, k ≤ reachBytes) : ∃ v D, cs = [v] ∧ IsDn W v D ∧ Mt.FitD D := by
  rcases DataW.trod_slice Tryz.underlying23 hf with ⟨hcs, _⟩ | ⟨y, n, c, elems, rest, n2, hmn, hcs, hy2, _, hl, hm, hlen, hel, _, _⟩
  · exact ⟨_, [], hcs, ⟨none, 0, rfl, by simp, by simp, .inl rfl⟩, by simp [Mt.FitD]⟩
  · rw [cellsRdn] at hel
    have hl24 : n * 24 ≤ 140737488351232 := by
      have := hw ((elems.length + rest.length) * 24) (by rw [hy2]; simp [DataW.weights, Tryz.underlying23, bytesRdn'])
      simp only [reachBytes] at this
      omega
    have hex : ∀ i : Nat, ∃ q : Value × List Mt.Av, i < n → (W.cell? (y.add i) = some q.1 ∧ IsAvs W q.1 q.2) ∧ q.2.length * 32 ≤ 140737488351232 ∧ ∀ a ∈ q.2, a.1.length ≤ 140737488351232 ∧ a.2.length ≤ 140737488351232 := by
      intro i
      by_cases hin : i < n
      · have h := hel i hin
        rw [List.getElem?_eq_getElem (by omega)] at h
        obtain ⟨cs', hc, ht2⟩ := Option.bind_eq_some_iff.1 h
        rw [Nat.mul_one] at hc
        obtain ⟨_, hcl, hat⟩ := World.cells?_some hc
        have hmem : elems[i].1 ∈ elems.map (·.1) := List.mem_map.2 ⟨elems[i], List.getElem_mem _, rfl⟩
        obtain ⟨x, r, rfl, hr, hr2⟩ := open_rdnW ht2 (by simpa using hcl) (fun k hk => hw k (by
          rw [hy2]; simp only [DataW.weights, Tryz.underlying23, List.mem_cons, List.mem_append]
          exact .inr (.inl (weightsAll_mem9 hmem hk))))
        refine ⟨(x, r), fun _ => ⟨⟨?_, hr⟩, hr2⟩⟩
        have := hat 0 (by decide); rw [add9_zero] at this; exact this
      · exact ⟨(.bool false, []), fun h => absurd h hin⟩
    obtain ⟨f, hfm⟩ := Classical.axiomOfChoice hex
    refine ⟨.slice (some y) n c, (List.range n).map fun i => (f i).2, by simpa [Value.cells] using hcs, ⟨some y, c, by simp, by simp; unfold maxLen at hm; omega, by simp; omega, ?_⟩, by simpa using hl24, fun r hr => ?_⟩
    · rcases Nat.eq_zero_or_pos n with h0 | h0
      · subst h0; exact .inl rfl
      · have hv := (hfm 0 h0).1.1
        rw [add9_zero] at hv
        obtain ⟨b, off, rfl⟩ := addr9_none hv
        refine .inr ⟨b, off, rfl, World.block_lt_of_cell? W _ hv, fun j hj => ?_⟩
        have hin : j < n := by simpa using hj
        have h2 := (hfm j hin).1
        rw [add_off] at h2
        exact ⟨_, h2.1, by simpa using h2.2⟩
    · obtain ⟨i, hi, rfl⟩ := List.mem_map.1 hr
      exact (hfm i (List.mem_range.1 hi)).2
theorem cellsRule22 : Tryz.prog.cellsOf 54 = 6 := by kernel_rfl
theorem bytesRule22 : Tryz.prog.bytesOf 54 = 72 := by kernel_rfl
theorem cellsRules22 : Tryz.prog.cellsOf 24 = 1 := by kernel_rfl
theorem cellsDn22 : Tryz.prog.cellsOf 23 = 1 := by kernel_rfl
theorem cellsCase22 : Tryz.prog.cellsOf 26 = 6 := by kernel_rfl
set_option maxRecDepth 100000 in
set_option maxHeartbeats 1000000 in
/-- Rules that came in. -/
theorem open_rusF {H : Type} {enc : TypeId × Value → H} {W : World} {fu : Nat} {cs : List Value} {x : DataW H × List MemPlace} (hf : DataW.trod enc Tryz.prog W 0 (fun _ => true) true fu 24 cs = some x)
    (hw : ∀ k ∈ x.1.weights Tryz.prog 24, k ≤ reachBytes) : ∃ v l, cs = [v] ∧ IsRus W v l ∧ l.length * 72 ≤ 140737488351232 ∧ ∀ a ∈ l, Mt.FitRu a := by
  rcases DataW.trod_slice Tryz.underlying24 hf with ⟨hcs, _⟩ | ⟨y, l, cp, elems, rest, n, hmn, hcs, hy2, _, hl, hm, hlen, hel, _, _⟩
  · exact ⟨_, [], hcs, ⟨none, 0, rfl, by simp, Lib.hid fun j hj => absurd hj (by simp)⟩, by simp, by simp⟩
  · refine ⟨.slice (some y) l cp, ?_⟩
    rw [cellsRule22] at hel
    have hl72 : l * 72 ≤ 140737488351232 := by
      have := hw ((elems.length + rest.length) * 72) (by rw [hy2]; simp [DataW.weights, Tryz.underlying24, bytesRule22])
      simp only [reachBytes] at this
      omega
    have hex : ∀ i : Nat, ∃ a : Mt.Ru, i < l → (W.cell? (y.add (i * 6)) = some (.int .i64 a.who) ∧ W.cell? ((y.add (i * 6)).add 1) = some (.string (Mt.str a.dn)) ∧ W.cell? ((y.add (i * 6)).add 2) = some (.string (Mt.str a.wh)) ∧ W.cell? ((y.add (i * 6)).add 3) = some (.string (Mt.str a.att)) ∧ W.cell? ((y.add (i * 6)).add 4) = some (.int .i64 a.rights) ∧ W.cell? ((y.add (i * 6)).add 5) = some (.bool a.allow)) ∧ Mt.FitRu a := by
      intro i
      by_cases hin : i < l
      · have h := hel i hin
        rw [List.getElem?_eq_getElem (by omega)] at h
        obtain ⟨cs', hc, ht⟩ := Option.bind_eq_some_iff.1 h
        obtain ⟨_, hcl, hat⟩ := World.cells?_some hc
        have hmem : elems[i].1 ∈ elems.map (·.1) := List.mem_map.2 ⟨elems[i], List.getElem_mem _, rfl⟩
        have hwe : ∀ k ∈ elems[i].1.weights Tryz.prog 54, k ≤ reachBytes := fun k hk => hw k (by
          rw [hy2]; simp only [DataW.weights, Tryz.underlying24, List.mem_cons, List.mem_append]
          exact .inr (.inl (weightsAll_mem13 hmem hk)))
        obtain ⟨xs, m2, _, hxx, _, hxl, hg⟩ := DataW.trod_struct Tryz.underlying54 ht
        obtain ⟨c0, c1, c2, c3, c4, c5, rfl⟩ : ∃ c0 c1 c2 c3 c4 c5, cs' = [c0, c1, c2, c3, c4, c5] := by
          match cs', hcl with
          | [c0, c1, c2, c3, c4, c5], _ => exact ⟨c0, c1, c2, c3, c4, c5, rfl⟩
        obtain ⟨y0, y1, y2, y3, y4, y5, rfl⟩ : ∃ y0 y1 y2 y3 y4 y5, xs = [y0, y1, y2, y3, y4, y5] := by
          match xs, hxl with
          | [y0, y1, y2, y3, y4, y5], _ => exact ⟨y0, y1, y2, y3, y4, y5, rfl⟩
        · skip
          obtain ⟨I0, e0, _⟩ := DataW.trod_int Tryz.underlying3 (x := y0) (by simpa [cellsInt13, Value.cells] using hg 0 _ rfl)
          obtain ⟨S1, e1, hy1, _⟩ := DataW.trod_string Tryz.underlying9 (x := y1) (by simpa [cellsInt13, cellsStr13, Value.cells] using hg 1 _ rfl)
          obtain ⟨S2, e2, hyy2, _⟩ := DataW.trod_string Tryz.underlying9 (x := y2) (by simpa [cellsInt13, cellsStr13, Value.cells] using hg 2 _ rfl)
          obtain ⟨S3, e3, hy3, _⟩ := DataW.trod_string Tryz.underlying9 (x := y3) (by simpa [cellsInt13, cellsStr13, Value.cells] using hg 3 _ rfl)
          obtain ⟨I4, e4, _⟩ := DataW.trod_int Tryz.underlying3 (x := y4) (by simpa [cellsInt13, cellsStr13, Value.cells] using hg 4 _ rfl)
          obtain ⟨B5, e5, _⟩ := DataW.trod_bool Tryz.underlying4 (x := y5) (by simpa [cellsInt13, cellsStr13, cellsBool13, Value.cells] using hg 5 _ rfl)
          simp only [List.cons.injEq, and_true] at e0 e1 e2 e3 e4 e5
          subst e0 e1 e2 e3 e4 e5
          have hx1 : elems[i].1 = .agg [y0.1, y1.1, y2.1, y3.1, y4.1, y5.1] := by rw [hxx]; rfl
          have hs1 : S1.data.toList.length ≤ reachBytes := hwe _ (by
            rw [hx1]; simp only [DataW.weights, Tryz.underlying54, List.map_cons, List.map_nil, DataW.weightsEach, List.mem_append]
            exact .inr (.inl (by rw [hy1]; simp [DataW.weights])))
          have hs2 : S2.data.toList.length ≤ reachBytes := hwe _ (by
            rw [hx1]; simp only [DataW.weights, Tryz.underlying54, List.map_cons, List.map_nil, DataW.weightsEach, List.mem_append]
            exact .inr (.inr (.inl (by rw [hyy2]; simp [DataW.weights]))))
          have hs3 : S3.data.toList.length ≤ reachBytes := hwe _ (by
            rw [hx1]; simp only [DataW.weights, Tryz.underlying54, List.map_cons, List.map_nil, DataW.weightsEach, List.mem_append]
            exact .inr (.inr (.inr (.inl (by rw [hy3]; simp [DataW.weights])))))
          refine ⟨⟨I0, S1.data.toList, S2.data.toList, S3.data.toList, I4, B5⟩, fun _ => ⟨⟨?_, hat 1 (by decide), hat 2 (by decide), hat 3 (by decide), hat 4 (by decide), hat 5 (by decide)⟩, hs1, hs2, hs3⟩⟩
          have := hat 0 (by decide); rw [add13_zero] at this; exact this
      · exact ⟨Mt.zeroRu, fun h => absurd h hin⟩
    obtain ⟨f, hfm⟩ := Classical.axiomOfChoice hex
    have hlD : ((List.range l).map f).length = l := by simp
    refine ⟨(List.range l).map f, by simpa [Value.cells] using hcs, ⟨some y, cp, by rw [hlD], by rw [hlD]; omega, Lib.hid fun j hj => ?_⟩, by rw [hlD]; omega, fun a ha => ?_⟩
    · have hin : j < l := by rw [hlD] at hj; exact hj
      have hv := (hfm 0 (by omega)).1.1
      rw [Nat.zero_mul, add13_zero] at hv
      obtain ⟨b, off, rfl⟩ := addr13_none hv
      have h2 := (hfm j hin).1
      rw [add_off, add_off, add_off, add_off, add_off, add_off] at h2
      exact ⟨b, off, rfl, World.block_lt_of_cell? W _ hv, by simpa using h2.1, by simpa using h2.2.1, by simpa using h2.2.2.1, by simpa using h2.2.2.2.1, by simpa using h2.2.2.2.2.1, by simpa using h2.2.2.2.2.2⟩
    · obtain ⟨i, hi, rfl⟩ := List.mem_map.1 ha
      exact (hfm i (List.mem_range.1 hi)).2
/-- A case: names, rules, an attribute and a right. -/
structure Mt.Ca where
  admin : List (List Mt.Av)
  who : List (List Mt.Av)
  entry : List (List Mt.Av)
  rules : List Mt.Ru
  att : List UInt8
  right : Int
/-- A case's parts in memory, of sizes that fit. -/
structure IsCa (w : World) (v1 v2 v3 v4 : Value) (c : Mt.Ca) : Prop where
  admin : IsDn w v1 c.admin
  who : IsDn w v2 c.who
  entry : IsDn w v3 c.entry
  rules : IsRus w v4 c.rules
  fadmin : Mt.FitD c.admin
  fwho : Mt.FitD c.who
  fentry : Mt.FitD c.entry
  rlen : c.rules.length * 72 ≤ 140737488351232
  rfit : ∀ r ∈ c.rules, Mt.FitRu r
  alen : c.att.length ≤ 140737488351232
def caV (v1 v2 v3 v4 : Value) (c : Mt.Ca) : Value := .agg #[v1, v2, v3, v4, .string (Mt.str c.att), .int .i64 c.right]
set_option maxRecDepth 100000 in
set_option maxHeartbeats 1000000 in
theorem open_case {H : Type} {enc : TypeId × Value → H} {W : World} {r : Reach} {b0 : Nat} {v : Value} {d : DataW H} {p : List MemPlace} {ts : List TypeId} {ds : List (DataW H)} {j : Nat} (hv : Value.okWide Tryz.prog W r b0 26 v) (h : DataW.Trod enc Tryz.prog W 0 (fun _ => true) true 26 v d p)
    (ht : ts[j]? = some 26) (hd : ds[j]? = some d) (hsz : (DataW.weightsEach Tryz.prog ts ds).all (· ≤ reachBytes) = true) : ∃ (v1 v2 v3 v4 : Value) (c : Mt.Ca), v = caV v1 v2 v3 v4 c ∧ IsCa W v1 v2 v3 v4 c := by
  have hwt : ∀ k ∈ d.weights Tryz.prog 26, k ≤ reachBytes := fun k hk => by
    have := List.all_eq_true.1 hsz _ (DataW.weights_mem_each ht hd k hk)
    simpa using this
  obtain ⟨cs, rfl, hz⟩ := okWide_struct Tryz.underlying26 hv
  rw [cellsCase22] at hz
  obtain ⟨fuel, hf⟩ := h
  obtain ⟨l⟩ := cs
  obtain ⟨c0, c1, c2, c3, c4, c5, rfl⟩ : ∃ c0 c1 c2 c3 c4 c5, l = [c0, c1, c2, c3, c4, c5] := by
    match l, hz with
    | [c0, c1, c2, c3, c4, c5], _ => exact ⟨c0, c1, c2, c3, c4, c5, rfl⟩
  have hf2 : DataW.trod enc Tryz.prog W 0 (fun _ => true) true fuel 26 [c0, c1, c2, c3, c4, c5] = some (d, p) := by simpa [Value.cells] using hf
  obtain ⟨xs, m2, _, hxx, _, hxl, hg⟩ := DataW.trod_struct Tryz.underlying26 hf2
  obtain ⟨y0, y1, y2, y3, y4, y5, rfl⟩ : ∃ y0 y1 y2 y3 y4 y5, xs = [y0, y1, y2, y3, y4, y5] := by
    match xs, hxl with
    | [y0, y1, y2, y3, y4, y5], _ => exact ⟨y0, y1, y2, y3, y4, y5, rfl⟩
  have hx1 : d = .agg [y0.1, y1.1, y2.1, y3.1, y4.1, y5.1] := by simpa using congrArg Prod.fst hxx
  obtain ⟨v0, D0, e0, h0, f0⟩ := open_dnF (x := y0) (by simpa [cellsDn22, Value.cells] using hg 0 _ rfl) (fun k hk => hwt k (by
    rw [hx1]; simp only [DataW.weights, Tryz.underlying26, List.map_cons, List.map_nil, DataW.weightsEach, List.mem_append]
    exact .inl hk))
  obtain ⟨v1, D1, e1, h1, f1⟩ := open_dnF (x := y1) (by simpa [cellsDn22, Value.cells] using hg 1 _ rfl) (fun k hk => hwt k (by
    rw [hx1]; simp only [DataW.weights, Tryz.underlying26, List.map_cons, List.map_nil, DataW.weightsEach, List.mem_append]
    exact .inr (.inl hk)))
  obtain ⟨v2, D2, e2, h2, f2⟩ := open_dnF (x := y2) (by simpa [cellsDn22, Value.cells] using hg 2 _ rfl) (fun k hk => hwt k (by
    rw [hx1]; simp only [DataW.weights, Tryz.underlying26, List.map_cons, List.map_nil, DataW.weightsEach, List.mem_append]
    exact .inr (.inr (.inl hk))))
  obtain ⟨v3, RS, e3, h3, n3, f3⟩ := open_rusF (x := y3) (by simpa [cellsDn22, cellsRules22, Value.cells] using hg 3 _ rfl) (fun k hk => hwt k (by
    rw [hx1]; simp only [DataW.weights, Tryz.underlying26, List.map_cons, List.map_nil, DataW.weightsEach, List.mem_append]
    exact .inr (.inr (.inr (.inl hk)))))
  obtain ⟨S4, e4, hy4, _⟩ := DataW.trod_string Tryz.underlying9 (x := y4) (by simpa [cellsDn22, cellsRules22, cellsStr13, Value.cells] using hg 4 _ rfl)
  obtain ⟨I5, e5, _⟩ := DataW.trod_int Tryz.underlying3 (x := y5) (by simpa [cellsDn22, cellsRules22, cellsStr13, cellsInt13, Value.cells] using hg 5 _ rfl)
  have hs4 : S4.data.toList.length ≤ reachBytes := hwt _ (by
    rw [hx1]; simp only [DataW.weights, Tryz.underlying26, List.map_cons, List.map_nil, DataW.weightsEach, List.mem_append]
    exact .inr (.inr (.inr (.inr (.inl (by rw [hy4]; simp [DataW.weights]))))))
  simp only [List.cons.injEq, and_true] at e0 e1 e2 e3 e4 e5
  subst e0 e1 e2 e3 e4 e5
  exact ⟨c0, c1, c2, c3, ⟨D0, D1, D2, RS, S4.data.toList, I5⟩, rfl, h0, h1, h2, h3, f0, f1, f2, n3, f3, hs4⟩
end Go.Proofs.YtngdbhncafnliaaGreat
