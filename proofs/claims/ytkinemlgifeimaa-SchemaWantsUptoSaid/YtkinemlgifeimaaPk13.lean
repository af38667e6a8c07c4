/-
  Some texts of one proof, one behind the other.
-/
import Derived.Maps.RangeWalk
import Derived.Maps.Views
import Derived.Sort.KeysCollected
import Derived.Test.YtkinemlgifeimaaPk11
import Derived.Test.YtkinemlgifeimaaPk12
set_option linter.unusedVariables false
set_option linter.unusedSimpArgs false

/-
  What classes want, as a map of the call's own.
-/
namespace Go.Proofs.Ytkinemlgifeimaa
open Go.RowKit

namespace Mt
/-- What is wanted of a name, where so many must be there and so many may. -/
def val (M Y : List (List UInt8)) (f : List UInt8) : Int := if f ∈ M then 2 else if f ∈ Y then 1 else 0
theorem val_range (M Y : List (List UInt8)) (f : List UInt8) : val M Y f = 0 ∨ val M Y f = 1 ∨ val M Y f = 2 := by
  unfold val; split
  · exact .inr (.inr rfl)
  · split
    · exact .inr (.inl rfl)
    · exact .inl rfl
theorem val_must (M Y : List (List UInt8)) (f g : List UInt8) : val (M ++ [f]) Y g = if g = f then max (val M Y f) 2 else val M Y g := by
  unfold val
  by_cases h : g = f
  · subst h; rw [if_pos (by simp), if_pos rfl]; split <;> (try split) <;> rfl
  · rw [if_neg h]; simp only [List.mem_append, List.mem_singleton, h, or_false]
theorem val_may (M Y : List (List UInt8)) (f g : List UInt8) : val M (Y ++ [f]) g = if g = f then max (val M Y f) 1 else val M Y g := by
  unfold val
  by_cases h : g = f
  · subst h; rw [if_pos rfl]
    by_cases hm : g ∈ M
    · rw [if_pos hm, if_pos hm]; rfl
    · simp only [hm, if_false, List.mem_append, List.mem_singleton, or_true, if_true]; split <;> rfl
  · rw [if_neg h]; simp only [List.mem_append, List.mem_singleton, h, or_false]
theorem length_le_of_sub : ∀ (ss T : List (List UInt8)), ss.Nodup → (∀ x ∈ ss, x ∈ T) → ss.length ≤ T.length
  | [], T, _, _ => Nat.zero_le _
  | x :: r, T, hn, hs => by
    have hx := hs x (by simp)
    have hn' := List.nodup_cons.1 hn
    have := length_le_of_sub r (T.erase x) hn'.2 (fun y hy => (List.mem_erase_of_ne (fun e => hn'.1 (by rw [← e]; exact hy))).2 (hs y (by simp [hy])))
    rw [List.length_erase_of_mem hx] at this
    have := List.length_pos_of_mem hx
    rw [List.length_cons]; omega
def dd : List (List UInt8) → List (List UInt8)
  | [] => []
  | x :: r => if x ∈ dd r then dd r else x :: dd r
theorem mem_dd : ∀ (l : List (List UInt8)) (x : List UInt8), x ∈ dd l ↔ x ∈ l
  | [], x => Iff.rfl
  | y :: r, x => by
    unfold dd
    split
    · rename_i h
      rw [mem_dd r x, List.mem_cons]
      constructor
      · exact .inr
      · rintro (rfl | h2)
        · exact (mem_dd r x).1 h
        · exact h2
    · rw [List.mem_cons, mem_dd r x, List.mem_cons]
theorem nodup_dd : ∀ l : List (List UInt8), (dd l).Nodup
  | [] => List.nodup_nil
  | y :: r => by
    unfold dd
    split
    · exact nodup_dd r
    · rename_i h
      exact List.nodup_cons.2 ⟨h, nodup_dd r⟩
/-- Those of which just that is wanted, rising. -/
def those (M Y : List (List UInt8)) (k : Int) : List (List UInt8) := ((dd (M ++ Y)).filter fun f => decide (val M Y f = k)).mergeSort leB
end Mt
theorem keyLawS : Maps.Keyed Try.prog 9 := Maps.string_keyed Try.underlying9
noncomputable abbrev intE : Value → Option (DataW Unit × List MemPlace) := plainElem Try.prog 3
/-- A map that reads so. -/
def Wm (D : DataW Unit) (M Y : List (List UInt8)) : Prop := ∀ f : List UInt8, Maps.has D (.string f) = decide (Mt.val M Y f ≠ 0) ∧ (Mt.val M Y f ≠ 0 → ∀ z, D.atKey (.string f) z = .lit (.int .i64 (Mt.val M Y f)))
theorem Wm.at {D : DataW Unit} {M Y : List (List UInt8)} (h : Wm D M Y) (f : List UInt8) : D.atKey (.string f) (.lit (.int .i64 0)) = .lit (.int .i64 (Mt.val M Y f)) := by
  by_cases hv : Mt.val M Y f = 0
  · rw [Maps.atKey_of_not_has (by rw [(h f).1, decide_eq_false (fun e => e hv)]), hv]
  · exact (h f).2 hv _
theorem Wm.none : Wm (.map []) [] [] := fun f => ⟨rfl, fun h => absurd rfl h⟩
theorem Wm.put {D : DataW Unit} {M Y M' Y' : List (List UInt8)} (h : Wm D M Y) (hm : Maps.IsMap D) (f : List UInt8) (k : Int) (hk : k ≠ 0) (hv : ∀ g, Mt.val M' Y' g = if g = f then k else Mt.val M Y g) : Wm (D.put (.string f) (.lit (.int .i64 k))) M' Y' := by
  intro g
  rw [hv g]
  by_cases e : g = f
  · subst e
    rw [if_pos rfl]
    exact ⟨by rw [Maps.has_put_same hm (show WideAt.IsKeyLit (.string g) from trivial), decide_eq_true hk], fun _ z => Maps.atKey_put_same hm (show WideAt.IsKeyLit (.string g) from trivial) _ z⟩
  · rw [if_neg e]
    have hne : (Lit.string g) ≠ .string f := fun h => e (by cases h; rfl)
    exact ⟨by rw [Maps.has_put_other hne]; exact (h g).1, fun hz z => by rw [Maps.atKey_put_other hne]; exact (h g).2 hz z⟩
theorem Wm.size {w : World} {b n : Nat} {D : DataW Unit} {M Y T : List (List UInt8)} (hown : w.ownsMap Try.prog 9 intE b n D) (h : Wm D M Y) (hT : ∀ f, Mt.val M Y f ≠ 0 → f ∈ T) : Maps.size D ≤ T.length := by
  obtain ⟨es, hD, hpw, _⟩ := hown.entries keyLawS
  obtain ⟨es', hD', hko⟩ := hown.keysOf
  obtain rfl : es = es' := by rw [hD] at hD'; simpa using hD'
  subst hD
  have hstr : ∀ p ∈ es, ∃ x, p.1 = .string x := fun p hp => by
    obtain ⟨v, hv⟩ := hko p hp
    obtain ⟨x, _, hx, _⟩ := Maps.keyOf_str Try.underlying9 hv
    exact ⟨x, hx⟩
  rw [Maps.size_eq]
  have hnd : (es.map fun p => strOf p.1).Nodup := by
    refine List.pairwise_map.2 (hpw.imp_of_mem fun {p q} hp' hq' hne e => hne ?_)
    obtain ⟨a, ha⟩ := hstr p hp'
    obtain ⟨c, hc⟩ := hstr q hq'
    rw [ha, hc] at e ⊢
    exact congrArg _ e
  have := Mt.length_le_of_sub _ T hnd (fun x hx => by
    obtain ⟨p, hp, rfl⟩ := List.mem_map.1 hx
    obtain ⟨a, ha⟩ := hstr p hp
    refine hT _ ?_
    have h1 : Maps.has (.map es) (.string a) = true := by
      rw [Maps.has_eq, List.any_eq_true]
      exact ⟨p, hp, by rw [ha]; simp [Lit.sameKey]⟩
    rw [(h a).1] at h1
    rw [ha]
    exact of_decide_eq_true h1)
  rw [List.length_map] at this
  exact this
theorem ownsMap_exact13 {w : World} {b n : Nat} {D : DataW Unit} (h : w.ownsMap Try.prog 9 intE b n D) : w.ownsMap Try.prog 9 intE b (Maps.size D) D := by
  obtain ⟨es, clock, h1, h2, h3, h4⟩ := h
  refine ⟨es, clock, h1, h2, ?_, h4⟩
  subst h4
  rw [Maps.size_eq]
  first
    | (rw [length_sorted]; simp)
    | simp
theorem ownsMap_keep13 {w u : World} {b n : Nat} {D : DataW Unit} (h : w.ownsMap Try.prog 9 intE b n D) (hb : u.heap[b]? = w.heap[b]?) : u.ownsMap Try.prog 9 intE b n D := by
  obtain ⟨es, clock, h1, h2⟩ := h
  exact ⟨es, clock, hb.trans h1, h2⟩
theorem ownsMap_lt13 {w : World} {b n : Nat} {D : DataW Unit} (h : w.ownsMap Try.prog 9 intE b n D) : b < w.heap.size := by
  obtain ⟨es, clock, h1, _⟩ := h
  exact lt_of_block h1
theorem zeroInt13 (w : World) : (zeroValue 3).run Try.prog w = .ok (.int .i64 0) w := by kernel_rfl
end Go.Proofs.Ytkinemlgifeimaa

/-
  What a class wants is put to what is wanted.
-/
namespace Go.Proofs.Ytkinemlgifeimaa
open Go.RowKit

namespace Mt
def addM (k : Int) (M l : List (List UInt8)) : List (List UInt8) := if k = 2 then M ++ l.map foldL else M
def addY (k : Int) (Y l : List (List UInt8)) : List (List UInt8) := if k = 2 then Y else Y ++ l.map foldL
theorem add_step (k : Int) (hk : k = 1 ∨ k = 2) (M Y l : List (List UInt8)) (x g : List UInt8) : val (addM k M (l ++ [x])) (addY k Y (l ++ [x])) g = if g = foldL x then max (val (addM k M l) (addY k Y l) (foldL x)) k else val (addM k M l) (addY k Y l) g := by
  rcases hk with rfl | rfl
  · unfold addM addY
    simp only [show ¬ (1 : Int) = 2 by decide, if_false]
    rw [List.map_append, ← List.append_assoc]
    exact val_may M (Y ++ l.map foldL) (foldL x) g
  · unfold addM addY
    rw [if_pos rfl, if_pos rfl, if_pos rfl, if_pos rfl, List.map_append, ← List.append_assoc]
    exact val_must (M ++ l.map foldL) Y (foldL x) g
theorem addM_nil (k : Int) (M : List (List UInt8)) : addM k M [] = M := by unfold addM; split <;> simp
theorem addY_nil (k : Int) (Y : List (List UInt8)) : addY k Y [] = Y := by unfold addY; split <;> simp
end Mt
theorem onlyOf {S : List Nat} {a b c : World} (h : OnlyS S a b) (h2 : Below b.heap.size b c) : OnlyS S a c := h.trans ⟨h2.os, h2.tape, h2.output, h2.size, fun k hk _ => h2.block k hk⟩
set_option maxRecDepth 100000 in
set_option maxHeartbeats 1000000 in
theorem want_any (k : Int) (hk : k = 1 ∨ k = 2) {w : World} {b n : Nat} {D : DataW Unit} {M Y T l : List (List UInt8)} {v : Value} (hown : w.ownsMap Try.prog 9 intE b n D) (hW : Wm D M Y) (hT : ∀ f, Mt.val M Y f ≠ 0 → f ∈ T) (hTl : T.length ≤ 4398046511104)
    (hv : ∀ u, OnlyS [b] w u → IsNms u v l) (hn : ∀ x ∈ l, x.length ≤ 140737488351232 ∧ Mt.foldL x ∈ T) (hl : l.length ≤ 8796093022208) :
    Calls Try.prog 39 #[.map (some b), .int .i64 k, v] w fun e w' => e = .returned (.tuple #[]) ∧ OnlyS [b] w w' ∧ ∃ n' D', w'.ownsMap Try.prog 9 intE b n' D' ∧ Wm D' (Mt.addM k M l) (Mt.addY k Y l) ∧ ∀ f, Mt.val (Mt.addM k M l) (Mt.addY k Y l) f ≠ 0 → f ∈ T := by
  obtain ⟨a, cap, rfl, -, -⟩ := hv w (OnlyS.refl _ _)
  have HV := Lib.hid hv
  have HN := Lib.hid hn
  have H0 : Hid (w.ownsMap Try.prog 9 intE b n D ∧ Wm D (Mt.addM k M (l.take 0)) (Mt.addY k Y (l.take 0)) ∧ ∀ f, Mt.val (Mt.addM k M (l.take 0)) (Mt.addY k Y (l.take 0)) f ≠ 0 → f ∈ T) := Lib.hid (by
    rw [List.take_zero, Mt.addM_nil, Mt.addY_nil]; exact ⟨hown, hW, hT⟩)
  have HK := Lib.hid hk
  obtain ⟨m, hm⟩ : ∃ m, l.length = m := ⟨_, rfl⟩
  have HM := Lib.hid hm
  have HTK : Hid (l.take m = l) := Lib.hid (by rw [← hm]; exact List.take_length)
  rw [hm] at hl ⊢
  clear hv hn hown hW hT hm
  go_enter Try.func39, Try.ntmps39
  go_wp2_with fail
  go_loopw [11] (fun iv wr => ∃ i : Nat, i ≤ m ∧ iv = .int .i64 (i : Int) ∧ Hid (OnlyS [b] w wr) ∧ Hid (∃ n' D', wr.ownsMap Try.prog 9 intE b n' D' ∧ Wm D' (Mt.addM k M (l.take i)) (Mt.addY k Y (l.take i)) ∧ ∀ f, Mt.val (Mt.addM k M (l.take i)) (Mt.addY k Y (l.take i)) f ≠ 0 → f ∈ T)) (fun iv _ => m - (intOf iv).toNat)
  case atStart => exact ⟨0, Nat.zero_le _, rfl, Lib.hid (OnlyS.refl _ _), Lib.hid ⟨_, _, H0.out⟩⟩
  case round =>
    obtain ⟨i, hi, rfl, HO, HD⟩ := hrel
    by_cases hlt : i < m
    · have hil : i < l.length := by rw [HM.out]; exact hlt
      obtain ⟨n1, D1, hown, hW, hT⟩ := HD.out
      obtain ⟨a', cap', e0, -, hcell⟩ := HV.out wr HO.out
      obtain ⟨bb, off, e1, hbl, hc⟩ := hcell.out i hil
      cases e0
      subst e1
      obtain ⟨x, hx⟩ : ∃ x, l[i] = x := ⟨_, rfl⟩
      have hnx := HN.out _ (List.getElem_mem hil)
      rw [hx] at hc hnx
      have htk : l.take (i + 1) = l.take i ++ [x] := by rw [List.take_succ_eq_append_getElem hil, hx]
      have HSTEP := Lib.hid (fun g => (Mt.add_step k HK.out M Y (l.take i) x g))
      rw [← htk] at HSTEP
      obtain ⟨M1, hM1⟩ : ∃ M1, Mt.addM k M (l.take i) = M1 := ⟨_, rfl⟩
      obtain ⟨Y1, hY1⟩ : ∃ Y1, Mt.addY k Y (l.take i) = Y1 := ⟨_, rfl⟩
      rw [hM1, hY1] at hW hT HSTEP
      have hval := Mt.val_range M1 Y1 (Mt.foldL x)
      have hsz := Wm.size hown hW hT
      have hex := ownsMap_exact13 hown
      have HF := Lib.hid (fold_any (Mt.str x) wr (by rw [Mt.str_size]; omega))
      rw [Mt.str_data] at HF
      have hfx : Mt.str (x.map Mt.sm) = Mt.str (Mt.foldL x) := rfl
      rw [hfx] at HF
      have hkey : keyOf Try.prog 9 (.string (Mt.str (Mt.foldL x))) = some (.string (Mt.foldL x)) := by
        have h1 : (Mt.str (Mt.foldL x)).size ≤ maxLen := by rw [Mt.str_size]; unfold Mt.foldL maxLen; rw [List.length_map]; omega
        have := WideMaps.keyOf_string_mk Try.underlying9 h1
        rwa [Mt.str_data] at this
      have HNX : Hid (∀ (u : World), Below wr.heap.size wr u → (Instr.lookup 67 (.map (some b)) (.string (Mt.str (Mt.foldL x))) false).run Try.prog u = .ok (.int .i64 (Mt.val M1 Y1 (Mt.foldL x))) u ∧ ∃ w', (Instr.mapUpdate 67 (.map (some b)) (.string (Mt.str (Mt.foldL x))) (.int .i64 (max (Mt.val M1 Y1 (Mt.foldL x)) k))).run Try.prog u = .ok () w' ∧ OnlyS [b] w w' ∧ ∃ n' D', w'.ownsMap Try.prog 9 intE b n' D' ∧ Wm D' (Mt.addM k M (l.take (i + 1))) (Mt.addY k Y (l.take (i + 1))) ∧ ∀ f, Mt.val (Mt.addM k M (l.take (i + 1))) (Mt.addY k Y (l.take (i + 1))) f ≠ 0 → f ∈ T) := Lib.hid (fun u hu => by
        have hou := ownsMap_keep13 hex (hu.block b (ownsMap_lt13 hown))
        obtain ⟨c, hrun, hat, hwc⟩ := hou.lookup_int keyLawS Try.underlying67 Try.underlying3 (zeroInt13 u) hkey
        rw [Wm.at hW] at hat
        injection hat with hat
        injection hat with _ hat
        refine ⟨by rw [hat]; exact hrun, ?_⟩
        have hwf : (Lit.int .i64 (max (Mt.val M1 Y1 (Mt.foldL x)) k)).wf = true := WalkArith.wf_i64 (by rcases HK.out with h | h <;> rcases hval with h2 | h2 | h2 <;> rw [h, h2] <;> decide)
        obtain ⟨w', hrun2, ho', hg'⟩ := hou.update keyLawS Try.underlying67 (by unfold maxLen; omega) hkey (plainElem_int Try.underlying3 hwf)
        refine ⟨w', hrun2, (onlyOf HO.out hu).grown (by simp) hg', _, _, ho', ?_, fun f hf => ?_⟩
        · exact hW.put hou.isMap (Mt.foldL x) _ (by rcases HK.out with h | h <;> rcases hval with h2 | h2 | h2 <;> rw [h, h2] <;> decide) HSTEP.out
        · rw [HSTEP.out f] at hf
          by_cases e : f = Mt.foldL x
          · rw [e]; exact hnx.2
          · rw [if_neg e] at hf; exact hT f hf)
      have d1 : decide ((i : Int) < (m : Int)) = true := decide_eq_true (by omega)
      have d2 : decide (i < m) = true := decide_eq_true hlt
      have i0 : (0 : Int) ≤ (i : Int) := by omega
      generalize Mt.str (Mt.foldL x) = FX at *
      generalize Mt.str x = X at *
      obtain ⟨cv, hcv⟩ : ∃ cv, Mt.val M1 Y1 (Mt.foldL x) = cv := ⟨_, rfl⟩
      rw [hcv] at HNX
      clear hcell hbl hx hnx htk HSTEP hM1 hY1 hval hsz hex hfx hkey hown hW hT hil HD hcv
      go_wp2_with fail
      refine (HF.out).mono ?_
      rintro e w2 ⟨rfl, hb⟩
      obtain ⟨hrun1, w3, hrun2, HO3, HD3⟩ := HNX.out w2 hb
      have HO3 := Lib.hid HO3
      have HD3 := Lib.hid HD3
      clear hb hc
      go_wp2_with fail
      go_roundw
      case rel => exact ⟨i + 1, by omega, by go_num, HO3, HD3⟩
      case measure => simp [intOf]; omega
    · obtain rfl : i = m := by omega
      have d1 : decide ((i : Int) < (i : Int)) = false := decide_eq_false (by omega)
      have d2 : decide (i < i) = false := decide_eq_false (by omega)
      have HD2 := HD.out
      rw [HTK.out] at HD2
      have HD3 := Lib.hid HD2
      clear HD2 HD
      go_wp2_with fail
      refine bodyPost_end (results_none rfl _ _ _) rfl ?_
      exact ⟨rfl, HO.out, HD3.out⟩
end Go.Proofs.Ytkinemlgifeimaa

/-
  The names of which just that is wanted, rising.
-/
namespace Go.Proofs.Ytkinemlgifeimaa
open Go.RowKit Go.Shelf Go.Sort

theorem ranges_keep13 {w u : World} {b r n : Nat} {D : DataW Unit} {left : Lit → Bool} {cnt : Nat} (h : w.ranges Try.prog 9 intE b r n D left cnt) (h1 : u.heap[b]? = w.heap[b]?) (h2 : u.heap[r]? = w.heap[r]?) : u.ranges Try.prog 9 intE b r n D left cnt := by
  obtain ⟨es, clock, since, seen, c0, hb, F, hs, hD, hr, rest⟩ := h
  exact ⟨es, clock, since, seen, c0, h1.trans hb, F, hs, hD, h2.trans hr, rest⟩
/-- The names met so far. -/
def Coll (M Y : List (List UInt8)) (k : Int) (left : Lit → Bool) (ss : List (List UInt8)) : Prop := ss.Nodup ∧ ∀ x, x ∈ ss ↔ (Mt.val M Y x = k ∧ left (.string x) = false)
section
variable {M Y : List (List UInt8)} {k : Int} {left : Lit → Bool} {ss : List (List UInt8)}
theorem Coll.start {D : DataW Unit} (hW : Wm D M Y) (hk : k ≠ 0) : Coll M Y k (Maps.has D) [] := ⟨List.nodup_nil, fun x => by
  constructor
  · intro h; cases h
  · rintro ⟨h1, h2⟩
    rw [(hW x).1, decide_eq_false_iff_not] at h2
    exact absurd (by rw [h1]; exact hk) h2⟩
theorem Coll.take (h : Coll M Y k left ss) {x : List UInt8} (hlk : left (.string x) = true) (hv : Mt.val M Y x = k) : Coll M Y k (fun z => left z && !z.sameKey (.string x)) (ss ++ [x]) := by
  have hnew : x ∉ ss := fun hx => by have := ((h.2 x).1 hx).2; rw [hlk] at this; cases this
  refine ⟨List.nodup_append.2 ⟨h.1, by simp, fun a ha b hb => by simp at hb; subst hb; exact fun e => hnew (e ▸ ha)⟩, fun y => ?_⟩
  by_cases hy : y = x
  · subst hy; simp [hv, Lit.sameKey]
  · simp [h.2 y, hy, Lit.sameKey]
theorem Coll.skip (h : Coll M Y k left ss) {x : List UInt8} (hv : Mt.val M Y x ≠ k) : Coll M Y k (fun z => left z && !z.sameKey (.string x)) ss := by
  refine ⟨h.1, fun y => ?_⟩
  by_cases hy : y = x
  · subst hy; simp [h.2 y, hv]
  · simp [h.2 y, hy, Lit.sameKey]
theorem Coll.perm (h : Coll M Y k left ss) (hk : k ≠ 0) (hl : ∀ kl, left kl = false) : ss.Perm ((Mt.dd (M ++ Y)).filter fun f => decide (Mt.val M Y f = k)) := by
  refine (List.perm_ext_iff_of_nodup h.1 (List.Pairwise.filter _ (Mt.nodup_dd (M ++ Y)))).2 fun x => ?_
  rw [h.2 x, hl, List.mem_filter, Mt.mem_dd, decide_eq_true_eq]
  constructor
  · rintro ⟨h1, _⟩
    refine ⟨?_, h1⟩
    unfold Mt.val at h1
    rw [List.mem_append]
    by_cases hm : x ∈ M
    · exact .inl hm
    · rw [if_neg hm] at h1
      by_cases hy : x ∈ Y
      · exact .inr hy
      · rw [if_neg hy] at h1; exact absurd h1.symm hk
  · rintro ⟨_, h1⟩; exact ⟨h1, rfl⟩
theorem Coll.sort (h : Coll M Y k left ss) (hk : k ≠ 0) (hl : ∀ kl, left kl = false) : ss.mergeSort Mt.leB = Mt.those M Y k := mergeSort_of_perm (h.perm hk hl)
end
theorem below_grow (w : World) (os : Array Obj) : Below w.heap.size w (grow w os) := by
  refine ⟨rfl, rfl, rfl, by simp [grow], fun k hk => ?_⟩
  show (w.heap ++ os)[k]? = _
  rw [Array.getElem?_append_left hk]
theorem sort13_any {base : Nat} {w : World} {v : Value} {ls : List (List UInt8)} (h : IsOwn 9 1 base w v ls.length (nms ls)) (hbase : base ≤ w.heap.size) (hn : ls.length < 4611686018427387904) :
    Calls Try.prog 60 #[v] w fun e w' => e = .returned (.tuple #[]) ∧ IsNms w' v (ls.mergeSort Mt.leB) ∧ Below base w w' := by
  have hlm : (ls.mergeSort Mt.leB).length = ls.length := List.length_mergeSort _
  obtain ⟨g, hg, hl, h⟩ := h
  rcases h with ⟨h0, rfl⟩ | ⟨off, cap, cur, rfl, h2, h3, h4, h5⟩
  · have : ls = [] := List.eq_nil_of_length_eq_zero h0
    subst this
    refine (AnyM.slices_Sort_string_none Try.sortA none 0 w).mono fun e w' ⟨he, hw⟩ => ⟨he, ?_, hw ▸ Below.refl _ _⟩
    exact ⟨none, 0, by simp, by simp, Lib.hid fun j hj => absurd hj (by simp)⟩
  · have hlt := lt_of_block h2
    have hH : Holds encStr w g off ls.toArray := by
      intro j hj
      have hj2 : j < ls.length := by simpa using hj
      refine ⟨?_, by simp [World.frozen?, h2]⟩
      rw [cell_of_row w g _ cur 9 (0, 0) h2, h5 j (by simpa [nms] using hj2)]
      simp [nms, getElem!_pos, hj2]; rfl
    refine (AnyM.slices_Sort_string Try.sortA g off cap ls w hH hlt hn).mono fun e w' ⟨he, n, os, hw⟩ => ⟨he, ?_, ?_⟩
    · have hsz : (putRow encStr (Sort.ahead w n) g off (ls.mergeSort fun x y => decide (x ≤ y)).toArray).heap.size = w.heap.size := by simp [putRow, mapBlock, Sort.ahead]
      refine ⟨_, cap, by rw [hlm], by rw [hlm]; exact h3, Lib.hid fun j hj => ⟨g, off, rfl, by rw [hw]; simp [grow]; omega, ?_⟩⟩
      have hb := below_grow (putRow encStr (Sort.ahead w n) g off (ls.mergeSort fun x y => decide (x ≤ y)).toArray) os
      rw [hw, hb.cell (p := ⟨g, off + j, none⟩) (by rw [hsz]; exact hlt)]
      have hHa : Holds encStr (Sort.ahead w n) g off ls.toArray := hH
      have := cell?_putRow encStr (Sort.ahead w n) g off ls.toArray (ls.mergeSort fun x y => decide (x ≤ y)).toArray hHa (by simp) j (by simpa using hj)
      rw [this]
      have e : (ls.mergeSort fun x y => decide (x ≤ y)) = ls.mergeSort Mt.leB := rfl
      rw [e, getElem!_pos _ _ (by simpa using hj)]
      simp; rfl
    · rw [hw]
      have hb1 : Below base w (putRow encStr (Sort.ahead w n) g off (ls.mergeSort fun x y => decide (x ≤ y)).toArray) := by
        refine ⟨rfl, rfl, rfl, by simp [putRow, mapBlock, Sort.ahead], fun k hk => ?_⟩
        simp only [putRow, mapBlock, Sort.ahead, Array.getElem?_modify]
        rw [if_neg (by omega)]
      exact hb1.trans ((below_grow _ os).mono (by simp [putRow, mapBlock, Sort.ahead]; omega))
set_option maxRecDepth 100000 in
set_option maxHeartbeats 1000000 in
theorem those_any (k : Int) (hk : k ≠ 0) {w : World} {b n : Nat} {D : DataW Unit} {M Y T : List (List UInt8)} (hown : w.ownsMap Try.prog 9 intE b n D) (hW : Wm D M Y) (hT : ∀ f, Mt.val M Y f ≠ 0 → f ∈ T) (hTl : T.length ≤ 4398046511104) :
    Calls Try.prog 40 #[.map (some b), .int .i64 k] w fun e w' => ∃ v, e = .returned v ∧ IsNms w' v (Mt.those M Y k) ∧ Below w.heap.size w w' := by
  have hbw := ownsMap_lt13 hown
  obtain ⟨i0, hi, hz0, hz1, hz2⟩ := info_parts Try.infoStr13
  have HI := Lib.hid (And.intro hi (And.intro hz0 (And.intro hz1 hz2)))
  have HS0 := Lib.hid (Coll.start hW hk)
  have HW := Lib.hid hW
  have HT := Lib.hid hT
  have HK := Lib.hid hk
  clear hi hz0 hz1 hz2 hW hT hk
  go_enter Try.func40, Try.ntmps40
  go_wp2_with (first | (at_range; refine wpList_range_own _ rfl _ 67 rfl 9 3 keyLawS Try.underlying67 intE b n D rfl hown ?_; intro w0 hrg0 hg0 hs0; go_frame) | fail)
  have hB0 : Below w.heap.size w w0 := ⟨hg0.os, hg0.tape, hg0.output, hg0.size, fun j hj => hg0.block j hj (by simp)⟩
  have HB0 := Lib.hid hB0
  have HR0 := Lib.hid hrg0
  clear hB0 hg0 hrg0
  go_loopw [5] (fun ov wr => ∃ (left : Lit → Bool) (cnt : Nat) (ss : List (List UInt8)) (a2 : Option Addr) (c2 : Nat), ov = .slice a2 ss.length c2 ∧ Hid (Coll M Y k left ss) ∧ Hid (wr.ranges Try.prog 9 intE b w.heap.size n D left cnt) ∧ Hid (IsOwn 9 1 (w.heap.size + 1) wr (.slice a2 ss.length c2) ss.length (nms ss)) ∧ Hid (Below w.heap.size w wr)) (fun _ wr => wr.rangeLeft b w.heap.size)
  case atStart => exact ⟨_, _, [], none, 0, rfl, HS0, HR0, Lib.hid (IsOwn.nil _ _ _ _), HB0⟩
  case round =>
    obtain ⟨left, cnt, ss, a2, c2, rfl, HC, HR, HO, HB⟩ := hrel
    have hsl : ss.length ≤ 4398046511104 := Nat.le_trans (Mt.length_le_of_sub ss T HC.out.1 (fun x hx => HT.out x (by rw [((HC.out.2 x).1 hx).1]; exact HK.out))) hTl
    have hwr : w.heap.size + 1 ≤ wr.heap.size := HR.out.lt
    have hrg := HR.out
    go_wp2_with (first | (at_next; refine wpList_next_ranges _ rfl _ rfl 9 keyLawS intE encStr (Value.int .i64) (fun key kl h => by obtain ⟨x, hx, _⟩ := Maps.keyOf_str Try.underlying9 h; exact ⟨x, hx⟩) (fun v y hv => by obtain ⟨c, rfl, _⟩ := plainElem_int_inv Try.underlying3 hv; exact ⟨c, rfl⟩) b w.heap.size n D left cnt rfl hrg ?_ ?_) | fail)
    · intro _ hl0
      have HS := Lib.hid (HC.out.sort HK.out hl0)
      have HSO := Lib.hid (sort13_any HO.out hwr (by omega))
      rw [HS.out] at HSO
      clear hl0 hrg HC HR
      go_wp2_with fail
      refine (HSO.out).mono ?_
      rintro e w2 ⟨rfl, hnm, hb⟩
      have HNM := Lib.hid hnm
      have HB2 := Lib.hid (HB.out.trans (hb.mono (Nat.le_succ _)))
      clear hb hnm
      go_wp2_with fail
      go_ret
      exact ⟨_, rfl, HNM.out, HB2.out⟩
    · intro x c kl yd yp w1 cnt1 hkey hlk hv hat hrg1 hlt hg1 hs1 hen
      obtain ⟨x', ex, rfl, hxl⟩ := Maps.keyOf_str Try.underlying9 hkey
      obtain rfl := encStr_inj ex
      have he : encStr x = .string (Mt.str x) := rfl
      rw [he] at hen ⊢
      obtain ⟨c', ec, hyp, -⟩ := plainElem_int_inv Try.underlying3 hv
      cases ec
      cases hyp
      have hcv : c = Mt.val M Y x := by
        have h1 := hat (.lit (.int .i64 0))
        rw [Wm.at HW.out] at h1
        injection h1 with h1
        injection h1 with _ h1
        exact h1.symm
      have HB1 := Lib.hid (HB.out.trans (show Below w.heap.size wr w1 from ⟨hg1.os, hg1.tape, hg1.output, hg1.size, fun j hj => hg1.block j (by omega) (fun e => by cases e; omega)⟩))
      have HO1 : Hid (IsOwn 9 1 (w.heap.size + 1) w1 (.slice a2 ss.length c2) ss.length (nms ss)) := Lib.hid (by
        obtain ⟨g, hg, hrw⟩ := HO.out
        refine ⟨g, hg, hrw.kept ?_⟩
        rcases Nat.lt_or_ge g wr.heap.size with h | h
        · exact hg1.block g h (fun e => by cases e; omega)
        · rw [Array.getElem?_eq_none (by rw [hs1]; exact h), Array.getElem?_eq_none h])
      have HR1 := Lib.hid hrg1
      have hcs : HC.out.1 = HC.out.1 := rfl
      have hll := HC.out
      by_cases hck : c = k
      · have HC2 := Lib.hid (hll.take hlk (by rw [← hcv]; exact hck))
        subst hck
        have hs2 : (ss ++ [x]).length ≤ 4398046511104 := Nat.le_trans (Mt.length_le_of_sub _ T HC2.out.1 (fun y hy => HT.out y (by rw [((HC2.out.2 y).1 hy).1]; exact HK.out))) hTl
        rw [List.length_append, List.length_singleton] at hs2
        have hsz1 : w.heap.size + 1 ≤ w1.heap.size := by omega
        obtain ⟨a3, c3, w5, hrun, hown5, hb5⟩ := own_push (T := 29) (tx := 29) Try.underlying29 Try.underlying29 HI.out.1 HI.out.2.1 HI.out.2.2.1 HI.out.2.2.2 rfl HO1.out hsz1 (nms_one _) #[.string (Mt.str x)] rfl (by simp [Value.oneCell']) (by omega) (by omega)
        have HO5 : Hid (IsOwn 9 1 (w.heap.size + 1) w5 (.slice a3 (ss.length + 1) c3) (ss ++ [x]).length (nms (ss ++ [x]))) := Lib.hid (by
          rw [List.length_append]
          have e : nms (ss ++ [x]) = nms ss ++ (#[.string (Mt.str x)] : Array Value).toList := by simp [nms]
          rw [e]; exact hown5)
        have HR5 := Lib.hid (ranges_keep13 HR1.out (hb5.block b (by omega)) (hb5.block w.heap.size (by omega)))
        have HB5 := Lib.hid (HB1.out.trans (hb5.mono (Nat.le_succ _)))
        have HLT : Hid (w5.rangeLeft b w.heap.size < wr.rangeLeft b w.heap.size) := Lib.hid (by rw [HR5.out.left_eq, HR.out.left_eq]; exact hlt)
        clear hkey hlk hv hat hrg1 hlt hg1 hs1 hcs hll hcv hown5 hb5 ex hrg
        generalize Mt.str x = X at *
        go_wp2_with (refine wpList_append_run rfl _ _ 29 29 rfl _ _ rfl rfl hrun ?_)
        go_roundw
        case rel => exact ⟨_, _, ss ++ [x], a3, c3, by rw [List.length_append]; rfl, HC2, HR5, by rw [List.length_append] at HO5 ⊢; exact HO5, HB5⟩
        case measure => exact HLT.out
      · have HC2 := Lib.hid (hll.skip (x := x) (by rw [← hcv]; exact hck))
        have HLT : Hid (w1.rangeLeft b w.heap.size < wr.rangeLeft b w.heap.size) := Lib.hid (by rw [HR1.out.left_eq, HR.out.left_eq]; exact hlt)
        have g1 : (c == k) = false := beq_eq_false_iff_ne.2 hck
        clear hkey hlk hv hat hrg1 hlt hg1 hs1 hcs hll hcv ex hrg hck
        generalize Mt.str x = X at *
        go_wp2_with fail
        go_roundw
        case rel => exact ⟨_, _, ss, a2, c2, rfl, HC2, HR1, HO1, HB1⟩
        case measure => exact HLT.out
end Go.Proofs.Ytkinemlgifeimaa
