/-
  Some texts of one proof, one behind the other.
-/
import Derived.Deep.QuietTactic
import Derived.BigQuiet
import Derived.Test.YtngdbhncafnliaaGreatRows
import Derived.Deep.CondSized
import Derived.Deep.Grids
import Derived.Maps.Ext
import Derived.Test.YtngdbhncafnliaaGreatPk16
import Derived.Test.YtngdbhncafnliaaGreatPk17
set_option linter.unusedVariables false
set_option linter.unusedSimpArgs false

/-
  Names in memory. What the call dn.Parse comes to.
-/
namespace Go.Proofs.YtngdbhncafnliaaGreat
open Go.RowKit

theorem Tryz.infoRdn : (Tryz.prog.info? 89).map (fun i => (i.zero, i.size, i.bytes)) = some (some (.slice none 0 0), 1, 24) := by kernel_rfl
/-- An RDN whose block is one of these. -/
def IsRdnB (w : World) (ok : Nat → Prop) (v : Value) (r : List Mt.Av) : Prop :=
  ∃ a cap, v = .slice a r.length cap ∧ r.length ≤ 9223372036854775807 ∧ r.length ≤ cap ∧ (r = [] ∨ ∃ b off, a = some ⟨b, off, none⟩ ∧ ok b ∧ b < w.heap.size ∧ ∀ j (hj : j < r.length), w.cell? ⟨b, off + j * 2, none⟩ = some (.string (Mt.str r[j].1)) ∧ w.cell? ⟨b, off + j * 2 + 1, none⟩ = some (.string (Mt.str r[j].2)))
theorem IsRdnB.avs {w : World} {ok : Nat → Prop} {v : Value} {r : List Mt.Av} (h : IsRdnB w ok v r) : IsAvs w v r := by
  obtain ⟨a, cap, h1, h2, h3, h4⟩ := h
  refine ⟨a, cap, h1, h2, h3, ?_⟩
  rcases h4 with h4 | ⟨b, off, h5, _, h6, h7⟩
  · exact .inl h4
  · exact .inr ⟨b, off, h5, h6, h7⟩
theorem IsRdnB.keep {w u : World} {ok ok' : Nat → Prop} {v : Value} {r : List Mt.Av} (h : IsRdnB w ok v r) (hok : ∀ b, ok b → b < w.heap.size → ok' b) (hb : ∀ b, ok b → b < w.heap.size → u.heap[b]? = w.heap[b]?) (hs : w.heap.size ≤ u.heap.size) : IsRdnB u ok' v r := by
  obtain ⟨a, cap, h1, h2, h3, h4⟩ := h
  refine ⟨a, cap, h1, h2, h3, ?_⟩
  rcases h4 with h4 | ⟨b, off, h5, h50, h6, h7⟩
  · exact .inl h4
  · refine .inr ⟨b, off, h5, hok b h50 h6, Nat.lt_of_lt_of_le h6 hs, fun j hj => ?_⟩
    have hc : ∀ o, u.cell? ⟨b, o, none⟩ = w.cell? ⟨b, o, none⟩ := fun o => by unfold World.cell?; rw [hb b h50 h6]
    rw [hc, hc]; exact h7 j hj
theorem IsOwn.rdnB {base : Nat} {w : World} {v : Value} {r : List Mt.Av} (h : IsOwn 87 2 base w v r.length (YtngdbhncafnliaaGreat.avs r)) (hn : r.length ≤ 9223372036854775807) : IsRdnB w (fun b => base ≤ b) v r := by
  obtain ⟨g, hg, hl, h⟩ := h
  have h0 : IsAvs w v r := IsOwn.avs ⟨g, hg, hl, h⟩ hn
  obtain ⟨a, cap, h1, h2, h3, h4⟩ := h0
  refine ⟨a, cap, h1, h2, h3, ?_⟩
  rcases h4 with h4 | ⟨b, off, h5, h6, h7⟩
  · exact .inl h4
  · subst h5
    rcases h with ⟨h8, h9⟩ | ⟨off2, cap2, cur, h8, _⟩
    · rw [h1] at h9; cases h9
    · rw [h1] at h8; cases h8
      exact .inr ⟨_, _, rfl, hg, h6, h7⟩

/-- The cells of a name: its RDNs, one a cell. -/
def AreRdns (w : World) (ok : Nat → Prop) (xs : List Value) (d : List (List Mt.Av)) : Prop := xs.length = d.length ∧ ∀ i (hi : i < d.length) x, xs[i]? = some x → IsRdnB w ok x d[i]
theorem AreRdns.keep {w u : World} {ok ok' : Nat → Prop} {xs : List Value} {d : List (List Mt.Av)} (h : AreRdns w ok xs d) (hok : ∀ b, ok b → b < w.heap.size → ok' b) (hb : ∀ b, ok b → b < w.heap.size → u.heap[b]? = w.heap[b]?) (hs : w.heap.size ≤ u.heap.size) : AreRdns u ok' xs d :=
  ⟨h.1, fun i hi x hx => (h.2 i hi x hx).keep hok hb hs⟩
theorem AreRdns.snoc {w : World} {ok : Nat → Prop} {xs : List Value} {d : List (List Mt.Av)} (h : AreRdns w ok xs d) {x : Value} {r : List Mt.Av} (hx : IsRdnB w ok x r) : AreRdns w ok (xs ++ [x]) (d ++ [r]) := by
  refine ⟨by simp [h.1], fun i hi y hy => ?_⟩
  by_cases hlt : i < d.length
  · rw [List.getElem?_append_left (by rw [h.1]; exact hlt)] at hy
    have e : (d ++ [r])[i] = d[i] := List.getElem_append_left hlt
    rw [e]; exact h.2 i hlt y hy
  · have hi2 : i = d.length := by simp at hi; omega
    subst hi2
    rw [List.getElem?_append_right (by rw [h.1]; exact Nat.le_refl _), h.1, Nat.sub_self] at hy
    cases hy
    have e : (d ++ [r])[d.length] = r := by simp
    rw [e]; exact hx
theorem AreRdns.one {w : World} {ok : Nat → Prop} {xs : List Value} {d : List (List Mt.Av)} (h : AreRdns w ok xs d) : ∀ u ∈ xs, u.oneCell' = true := by
  intro u hu
  obtain ⟨i, hi, rfl⟩ := List.mem_iff_getElem.1 hu
  obtain ⟨a, cap, h1, _⟩ := h.2 i (by rw [← h.1]; exact hi) _ (List.getElem?_eq_getElem hi)
  rw [h1]; rfl

/-- A name in memory, wherever it lies. -/
def IsDn (w : World) (v : Value) (d : List (List Mt.Av)) : Prop :=
  ∃ a cap, v = .slice a d.length cap ∧ d.length ≤ 9223372036854775807 ∧ d.length ≤ cap ∧ (d = [] ∨ ∃ b off, a = some ⟨b, off, none⟩ ∧ b < w.heap.size ∧ ∀ i (hi : i < d.length), ∃ x, w.cell? ⟨b, off + i, none⟩ = some x ∧ IsAvs w x d[i])
theorem IsDn.below {w u : World} {v : Value} {d : List (List Mt.Av)} (h : IsDn w v d) (hb : Below w.heap.size w u) : IsDn u v d := by
  obtain ⟨a, cap, h1, h2, h3, h4⟩ := h
  refine ⟨a, cap, h1, h2, h3, ?_⟩
  rcases h4 with h4 | ⟨b, off, h5, h6, h7⟩
  · exact .inl h4
  · refine .inr ⟨b, off, h5, Nat.lt_of_lt_of_le h6 hb.size, fun i hi => ?_⟩
    obtain ⟨x, hx, hr⟩ := h7 i hi
    exact ⟨x, (hb.cell (p := ⟨b, off + i, none⟩) h6).trans hx, hr.below hb⟩
theorem IsRw.dn {w : World} {ok : Nat → Prop} {g : Nat} {v : Value} {xs : List Value} {d : List (List Mt.Av)} (h : IsRw 89 1 w g v d.length xs) (hr : AreRdns w ok xs d) (hn : d.length ≤ 9223372036854775807) : IsDn w v d := by
  obtain ⟨hl, h⟩ := h
  rcases h with ⟨h0, rfl⟩ | ⟨off, cap, cur, rfl, h2, h3, h4, h5⟩
  · have : d = [] := List.eq_nil_of_length_eq_zero h0
    subst this
    exact ⟨none, 0, rfl, hn, by simp, .inl rfl⟩
  · refine ⟨_, cap, rfl, hn, h3, .inr ⟨g, off, rfl, lt_of_block h2, fun i hi => ?_⟩⟩
    have hi2 : i < xs.length := by omega
    exact ⟨xs[i], by rw [cell_of_row w g _ cur 89 (0, 0) h2]; exact h5 i hi2, (hr.2 i hi _ (List.getElem?_eq_getElem hi2)).avs⟩

/-- One RDN more, made by a call. -/
theorem dn_step {w w2 : World} {base g k : Nat} {a2 : Option Addr} {c2 : Nat} {xs : List Value} {d : List (List Mt.Av)} (hrw : IsRw 89 1 w g (.slice a2 k c2) k xs) (hn : AreRdns w (fun b => base ≤ b ∧ b ≠ g) xs d) (hk : k = d.length) (hg : base ≤ g) (hbase : base ≤ w.heap.size)
    {x : Value} {r : List Mt.Av} (hx : IsRdnB w2 (fun b => w.heap.size ≤ b) x r) (hb : Below w.heap.size w w2) (hlen : (k + 1) * 24 ≤ 140737488355328) :
    ∃ a3 c3 w3 g3 xs3, (∀ ty, (Builtin.append_ #[23, 23] ty #[.slice a2 k c2, .slice (some ⟨w2.heap.size, 0, none⟩) 1 1]).run Tryz.prog (w2.alloc (.cells #[x] 89)) = .ok (.slice a3 (k + 1) c3) w3) ∧ IsRw 89 1 w3 g3 (.slice a3 (k + 1) c3) (k + 1) xs3 ∧
      AreRdns w3 (fun b => base ≤ b ∧ b ≠ g3) xs3 (d ++ [r]) ∧ base ≤ g3 ∧ Below base w2 w3 := by
  subst hk
  have hsz := hb.size
  have hnorm : ∃ g2, IsRw 89 1 w2 g2 (.slice a2 d.length c2) d.length xs ∧ AreRdns w2 (fun b => base ≤ b ∧ b ≠ g2) xs d ∧ base ≤ g2 ∧ IsRdnB w2 (fun b => base ≤ b ∧ b ≠ g2) x r := by
    rcases hrw.norm (w2.heap.size + base + 1) with hg1 | hrw1
    · exact ⟨g, hrw.below hb, hn.keep (fun _ h _ => h) (fun b _ hlt => hb.block b hlt) hsz, hg, hx.keep (fun b hb _ => ⟨by omega, by omega⟩) (fun _ _ _ => rfl) (Nat.le_refl _)⟩
    · exact ⟨_, hrw1.below hb, hn.keep (fun b h hlt => ⟨h.1, by omega⟩) (fun b _ hlt => hb.block b hlt) hsz, by omega, hx.keep (fun b hb hlt => ⟨by omega, by omega⟩) (fun _ _ _ => rfl) (Nat.le_refl _)⟩
  obtain ⟨g2, hrw2, hds2, hg2, hx2⟩ := hnorm
  obtain ⟨i0, hi, hz0, hz1, hz2⟩ := info_parts Tryz.infoRdn
  have hbel := (Below.refl w2.heap.size w2).alloc (Nat.le_refl _) (.cells #[x] 89)
  have hsn := hds2.snoc hx2
  have hone : ∀ u ∈ [x], u.oneCell' = true := fun u hu => hsn.one u (List.mem_append_right _ hu)
  have src : Src Tryz.prog i0.size 23 (.slice (some ⟨w2.heap.size, 0, none⟩) 1 1) 1 [x] (w2.alloc (.cells #[x] 89)) :=
    Src.ofSlice _ Tryz.underlying23 ⟨w2.heap.size, 0, none⟩ 1 1 _ (by rw [hz1]; rfl) (fun j u hu => by
      rw [add_off, cell_of_row _ w2.heap.size _ _ _ _ (heap_alloc_new w2 _), Nat.zero_add]
      simpa using hu) hone
  obtain ⟨v', w', g', hrun, hrw3, hg', ho⟩ := rw_append (T := 23) (tx := 23) Tryz.underlying23 hi hz0 hz1 hz2 rfl (hrw2.below hbel) hds2.one _ 1 [x] src (by omega) (by omega)
  obtain ⟨a3, c3, rfl⟩ := hrw3.form
  have hlt' : g' < w'.heap.size := by
    rcases hrw3.2 with ⟨h0, _⟩ | ⟨off, cap, cur, _, h2, _⟩
    · omega
    · exact lt_of_block h2
  have hsa : (w2.alloc (.cells #[x] 89)).heap.size = w2.heap.size + 1 := by simp
  have hg3 : base ≤ g' := by
    rcases hg' with rfl | rfl
    · exact hg2
    · rw [hsa]; omega
  refine ⟨a3, c3, w', g', _, hrun, hrw3, ?_, hg3, ?_⟩
  · refine hsn.keep (fun b hb hlt => ⟨hb.1, ?_⟩) (fun b hb hlt => (ho.block b (Nat.lt_of_lt_of_le hlt hbel.size) (by simpa using hb.2)).trans (hbel.block b hlt)) (Nat.le_trans hbel.size ho.size)
    rcases hg' with rfl | rfl
    · exact hb.2
    · rw [hsa]; omega
  · exact (hbel.mono (by omega)).trans (ho.toBelow (by simpa using hg2) (by rw [hsa]; omega))

/-- What Parse answers. -/
def ParsP (w : World) (res : Except Nat (List (List Mt.Av))) (x : Ending) (w' : World) : Prop :=
  Below w.heap.size w w' ∧ match res with
    | .error e => x = .returned (.tuple #[.slice none 0 0, .int .i64 e])
    | .ok d => ∃ v, x = .returned (.tuple #[v, .int .i64 0]) ∧ IsDn w' v d

theorem Mt.rdnF_len : ∀ {k : Nat} {acc : List Mt.Av} {l : List UInt8} {r : List Mt.Av} {rest : List UInt8}, Mt.rdnF k acc l = .ok (r, rest) → rest.length < l.length ∧ r.length ≤ acc.length + k
  | 0, acc, l, r, rest, h => by simp [Mt.rdnF] at h
  | k + 1, acc, l, r, rest, h => by
    simp only [Mt.rdnF] at h
    cases hc : Mt.cutE l with
    | none => rw [hc] at h; cases h
    | some p =>
      obtain ⟨t, r1⟩ := p
      rw [hc] at h
      simp only at h
      have h1 := Mt.cut_len hc
      split at h
      · cases h
      split at h
      · cases h
      cases hv : Mt.valL r1 with
      | none => rw [hv] at h; cases h
      | some p =>
        obtain ⟨x, r2⟩ := p
        rw [hv] at h
        simp only at h
        have h2 := Mt.valL_len hv
        split at h
        · have := Mt.rdnF_len h
          simp only [List.length_append, List.length_cons, List.length_nil] at this h2
          omega
        · cases h
          simp; omega

theorem Mt.rdnF_err : ∀ {k : Nat} {acc : List Mt.Av} {l : List UInt8} {e : Nat}, Mt.rdnF k acc l = .error e → 0 < e
  | 0, acc, l, e, h => by simp [Mt.rdnF] at h; omega
  | k + 1, acc, l, e, h => by
    simp only [Mt.rdnF] at h
    split at h
    · cases h; omega
    split at h
    · cases h; omega
    split at h
    · cases h; omega
    split at h
    · cases h; omega
    split at h
    · exact Mt.rdnF_err h
    · cases h
set_option maxRecDepth 100000 in
set_option maxHeartbeats 1000000 in
theorem dparse_any (s : ByteArray) (w : World) (hsz : s.size ≤ 9223372036854775807) : Calls Tryz.prog 62 #[.string s] w (ParsP w (Mt.dnL s.data.toList)) := by
  have hl : s.data.toList.length = s.size := rfl
  by_cases hbig : 4096 < s.size
  · have hR : Mt.dnL s.data.toList = .error 5 := by unfold Mt.dnL; rw [if_pos (by omega)]
    rw [hR]
    have hbi : decide ((4096 : Int) < s.size) = true := decide_eq_true (by omega)
    clear hR hl
    go_enter Tryz.func62, Tryz.ntmps62
    go_wp2_with fail
    go_ret2
    exact ⟨Below.refl _ _, rfl⟩
  · have hbi : decide ((4096 : Int) < s.size) = false := decide_eq_false (by omega)
    rcases Nat.eq_zero_or_pos s.size with h0 | h0
    · have hs0 : s = ⟨#[]⟩ := by
        apply ByteArray.ext
        exact Array.eq_empty_of_size_eq_zero h0
      subst hs0
      have hR : Mt.dnL (⟨#[]⟩ : ByteArray).data.toList = .ok [] := by simp [Mt.dnL]
      rw [hR]
      clear hbi hR
      go_enter Tryz.func62, Tryz.ntmps62
      go_wp2_with fail
      go_ret2
      exact ⟨Below.refl _ _, _, rfl, none, 0, rfl, by simp, by simp, .inl rfl⟩
    · obtain ⟨R, hR⟩ : ∃ R, Mt.dnL s.data.toList = R := ⟨_, rfl⟩
      rw [hR]
      have HR0 : Hid (Mt.dnF 32 [] s.data.toList = R) := Lib.hid (by
        rw [← hR]; unfold Mt.dnL; rw [if_neg (by omega), if_neg (by intro h; rw [h] at hl; simp at hl; omega)])
      have hne1 : s.toList.isEmpty = false := nonempty_str h0
      have HSZ := Lib.hid (Nat.not_lt.1 hbig)
      clear hR hl h0 hbig
      go_enter Tryz.func62, Tryz.ntmps62
      go_wp2_with fail
      go_loopw [0, 4] (fun sv v wr => ∃ (l : List UInt8) (d : List (List Mt.Av)) (a : Option Addr) (c : Nat), sv = .string (Mt.str l) ∧ v = .slice a d.length c ∧ Hid (∃ g xs, w.heap.size ≤ g ∧ IsRw 89 1 wr g (.slice a d.length c) d.length xs ∧ AreRdns wr (fun b => w.heap.size ≤ b ∧ b ≠ g) xs d) ∧ l.length ≤ s.size ∧ d.length ≤ 32 ∧ Hid (Mt.dnF (32 - d.length) d l = R) ∧ Hid (Below w.heap.size w wr))
        (fun sv _ _ => szOf sv)
      case atStart => exact ⟨s.data.toList, [], none, 0, rfl, rfl, Lib.hid ⟨w.heap.size, [], Nat.le_refl _, IsRw.nil _ _ _ _, rfl, fun i hi => by simp at hi⟩, Nat.le_refl _, by simp, HR0, Lib.hid (Below.refl _ _)⟩
      case round =>
        obtain ⟨l, d, a, c, rfl, rfl, HO, hlen, hd32, HR, HB⟩ := hrel
        by_cases h32 : d.length < 32
        · have h32i : decide ((d.length : Int) < 32) = true := decide_eq_true (by omega)
          obtain ⟨m, hm⟩ : ∃ m, 32 - d.length = m + 1 := ⟨31 - d.length, by omega⟩
          rw [hm] at HR
          have HM := Lib.hid (And.intro hm (And.intro h32 (And.intro hd32 hlen)))
          have HC := Lib.hid (readRDN_any (Mt.str l) wr (by rw [Mt.str_size]; have := HSZ.out; omega))
          rw [Mt.str_data] at HC
          unfold RdnP at HC
          cases hrd : Mt.rdnF 8 [] l with
          | error e =>
            rw [hrd] at HC
            have HF : Hid (R = .error e) := Lib.hid (by rw [← HR.out]; simp [Mt.dnF, hrd])
            have he : ((e : Int) != 0) = true := by
              have := Mt.rdnF_err hrd
              simp; omega
            clear hrd hm h32 hd32 hlen
            go_wp2_with fail
            refine (HC.out).mono ?_
            rintro x w2 ⟨hb, rfl⟩
            have HB2 := Lib.hid (HB.out.trans (hb.mono HB.out.size))
            clear hb
            go_wp2_with fail
            go_ret2
            exact ⟨HB2.out, by rw [HF.out]; rfl⟩
          | ok p =>
            obtain ⟨r, rest⟩ := p
            rw [hrd] at HC
            have hrl := Mt.rdnF_len hrd
            obtain ⟨S, hS⟩ : ∃ S, Mt.str rest = S := ⟨_, rfl⟩
            simp only [hS] at HC
            cases rest with
            | cons q l2 =>
              have hz : S.toList.isEmpty = false := by rw [← hS, ByteArray.toList_eq]; rfl
              have HF : Hid (Mt.dnF m (d ++ [r]) l2 = R) := Lib.hid (by rw [← HR.out]; simp [Mt.dnF, hrd])
              have hx1 : S.extract 1 S.size = Mt.str l2 := by rw [← hS, Mt.extract_drop]; rfl
              have hl2 : l2.length + 1 < l.length := by have := hrl.1; simpa using this
              have hs1 : (1 : Int) ≤ S.size := by rw [← hS, Mt.str_size]; simp; omega
              have hs2 : 1 ≤ S.size := by omega
              clear hrd hrl hm h32 hd32 hlen hS
              have hl2' := Lib.hid hl2
              clear hl2
              go_wp2_with fail
              refine (HC.out).mono ?_
              rintro x w2 ⟨hb, v, rfl, hown, h8⟩
              obtain ⟨va, vc, rfl⟩ := hown.form
              obtain ⟨g, xs, hg, hrw, hds⟩ := HO.out
              obtain ⟨a3, c3, w3, g3, xs3, hrun, hrw3, hds3, hg3, hb3⟩ := dn_step hrw hds rfl hg HB.out.size (hown.rdnB (by omega)) hb (by have := HM.out; omega)
              have HO3 := Lib.hid (And.intro hg3 (And.intro hrw3 hds3))
              have HB3 := Lib.hid ((HB.out.trans (hb.mono HB.out.size)).trans hb3)
              clear hb hown hrw hds hrw3 hds3 hb3
              go_wp2_with (refine wpList_append_run rfl _ _ 23 23 rfl _ _ rfl rfl hrun ?_)
              go_roundw
              case rel => exact ⟨l2, d ++ [r], a3, c3, rfl, by rw [List.length_append]; rfl, by rw [List.length_append]; exact Lib.hid ⟨g3, xs3, HO3.out⟩, by have := HM.out; have := hl2'.out; omega, by have := HM.out; rw [List.length_append]; simp; omega, by rw [List.length_append, show 32 - (d.length + [r].length) = m by have := HM.out; simp; omega]; exact HF, HB3⟩
              case measure => simp [szOf, Mt.str_size]; have := hl2'.out; omega
            | nil =>
              have hz : S.toList.isEmpty = true := by rw [← hS, ByteArray.toList_eq]; rfl
              have HF : Hid (R = .ok (d ++ [r])) := Lib.hid (by rw [← HR.out]; simp [Mt.dnF, hrd])
              clear hrd hrl hm h32 hd32 hlen hS
              go_wp2_with fail
              refine (HC.out).mono ?_
              rintro x w2 ⟨hb, v, rfl, hown, h8⟩
              obtain ⟨va, vc, rfl⟩ := hown.form
              obtain ⟨g, xs, hg, hrw, hds⟩ := HO.out
              obtain ⟨a3, c3, w3, g3, xs3, hrun, hrw3, hds3, hg3, hb3⟩ := dn_step hrw hds rfl hg HB.out.size (hown.rdnB (by omega)) hb (by have := HM.out; omega)
              have HO3 : Hid (IsDn w3 (.slice a3 (d.length + 1) c3) (d ++ [r])) := Lib.hid (IsRw.dn (ok := fun b => w.heap.size ≤ b ∧ b ≠ g3) (by rw [List.length_append]; exact hrw3) hds3 (by have := HM.out; rw [List.length_append]; simp; omega))
              have HB3 := Lib.hid ((HB.out.trans (hb.mono HB.out.size)).trans hb3)
              clear hb hown hrw hds hrw3 hds3 hb3
              go_wp2_with (refine wpList_append_run rfl _ _ 23 23 rfl _ _ rfl rfl hrun ?_)
              go_ret2
              exact ⟨HB3.out, by rw [HF.out]; exact ⟨_, rfl, HO3.out⟩⟩
        · have HF : Hid (R = .error 9) := Lib.hid (by rw [← HR.out, show 32 - d.length = 0 by omega]; rfl)
          have h32i : decide ((d.length : Int) < 32) = false := decide_eq_false (by omega)
          go_wp2_with fail
          go_ret2
          exact ⟨HB.out, by rw [HF.out]; rfl⟩
end Go.Proofs.YtngdbhncafnliaaGreat

/-
  What the document's Same comes to.
-/
namespace Go.Proofs.YtngdbhncafnliaaGreat
open Go.RowKit

theorem IsDn.row {w : World} {a : Option Addr} {n cap : Nat} {d : List (List Mt.Av)} (h : IsDn w (.slice a n cap) d) (j : Nat) (hj : j < d.length) : ∃ b off, a = some ⟨b, off, none⟩ ∧ ∃ x, IsAvs w x d[j] ∧ ∀ u, Below w.heap.size w u → u.cell? ⟨b, off + j, none⟩ = some x := by
  obtain ⟨a1, cap1, h1, _, _, h4⟩ := h
  cases h1
  rcases h4 with h | ⟨b, off, h1, h2, h3⟩
  · subst h; simp at hj
  · obtain ⟨x, h4, h5⟩ := h3 j hj
    exact ⟨b, off, h1, x, h5, fun u hu => (hu.cell (p := ⟨b, off + j, none⟩) h2).trans h4⟩
theorem IsAvs.row {w : World} {a : Option Addr} {n cap : Nat} {r : List Mt.Av} (h : IsAvs w (.slice a n cap) r) (j : Nat) (hj : j < r.length) : ∃ b off, a = some ⟨b, off, none⟩ ∧ ∀ u, Below w.heap.size w u → u.cell? ⟨b, off + j * 2, none⟩ = some (.string (Mt.str r[j].1)) ∧ u.cell? ⟨b, off + j * 2 + 1, none⟩ = some (.string (Mt.str r[j].2)) := by
  obtain ⟨a1, cap1, h1, _, _, h4⟩ := h
  cases h1
  rcases h4 with h | ⟨b, off, h1, h2, h3⟩
  · subst h; simp at hj
  · exact ⟨b, off, h1, fun u hu => ⟨(hu.cell (p := ⟨b, off + j * 2, none⟩) h2).trans (h3 j hj).1, (hu.cell (p := ⟨b, off + j * 2 + 1, none⟩) h2).trans (h3 j hj).2⟩⟩
theorem Below.drewK {B : Nat} {a w : World} (h : Below B a w) (m : Nat) : Below B a (w.drewN m) := ⟨h.os, h.tape, h.output, h.size, h.block⟩
theorem Mt.ext_of {α : Type} {a b : List α} (hl : a.length = b.length) (h : ∀ j (h1 : j < a.length) (h2 : j < b.length), a[j] = b[j]) : a = b := List.ext_getElem hl h

end Go.Proofs.YtngdbhncafnliaaGreat

/-
  Names that came in, read.
-/
namespace Go.Proofs.YtngdbhncafnliaaGreat
open Go.RowKit Go.Deep

theorem cellsRdn : Tryz.prog.cellsOf 89 = 1 := by kernel_rfl
theorem cellsAva : Tryz.prog.cellsOf 87 = 2 := by kernel_rfl
theorem cellsStr9 : Tryz.prog.cellsOf 9 = 1 := by kernel_rfl
theorem addr9_none {w : World} {x : Addr} {v : Value} (h : w.cell? x = some v) : ∃ b off, x = ⟨b, off, none⟩ := by
  obtain ⟨b, off, spot⟩ := x
  have hs : spot = none := by simpa using World.cell?_spot h
  exact ⟨b, off, by rw [hs]⟩
theorem add9_zero (x : Addr) : x.add 0 = x := by obtain ⟨b, off, sp⟩ := x; unfold Addr.add; split <;> simp_all

set_option maxRecDepth 100000 in
/-- An RDN that came in. -/
theorem open_rdn {H : Type} {enc : TypeId × Value → H} {W : World} {fu : Nat} {cs : List Value} {x : DataW H × List MemPlace} (hf : DataW.trod enc Tryz.prog W 0 (fun _ => true) true fu 89 cs = some x) (h1 : cs.length = 1) :
    ∃ v r, cs = [v] ∧ IsAvs W v r := by
  rcases open_slice Tryz.underlying89 hf with ⟨hcs, _⟩ | ⟨y, l, cp, m, fu2, D, Pl, hcs, _, hl, hm, hmm, _, hi⟩
  · exact ⟨_, [], hcs, none, 0, rfl, by simp, by simp, .inl rfl⟩
  · refine ⟨.slice (some y) l cp, ?_⟩
    rw [cellsAva] at hi
    have hm' : l ≤ m := by rw [hmm]; split <;> omega
    have hex : ∀ i : Nat, ∃ a : Mt.Av, i < l → W.cell? (y.add (i * 2)) = some (.string (Mt.str a.1)) ∧ W.cell? ((y.add (i * 2)).add 1) = some (.string (Mt.str a.2)) := by
      intro i
      by_cases hin : i < l
      · obtain ⟨cs', hc, ht⟩ := hi i (by omega)
        obtain ⟨_, hlen, hat⟩ := World.cells?_some hc
        obtain ⟨xs, m2, _, _, _, hxl, hg⟩ := DataW.trod_struct Tryz.underlying87 ht
        match cs', hlen, xs, hxl with
        | [c0, c1], _, [y0, y1], _ =>
          obtain ⟨S, e0, _⟩ := DataW.trod_string Tryz.underlying9 (x := y0) (by simpa [cellsStr9, Value.cells] using hg 0 _ rfl)
          obtain ⟨T, e1, _⟩ := DataW.trod_string Tryz.underlying9 (x := y1) (by simpa [cellsStr9, Value.cells] using hg 1 _ rfl)
          simp only [List.cons.injEq, and_true] at e0 e1
          subst e0 e1
          refine ⟨(S.data.toList, T.data.toList), fun _ => ⟨?_, ?_⟩⟩
          · have := hat 0 (by decide); rw [add9_zero] at this; exact this
          · exact hat 1 (by decide)
      · exact ⟨([], []), fun h => absurd h hin⟩
    obtain ⟨f, hfm⟩ := Classical.axiomOfChoice hex
    refine ⟨(List.range l).map f, by simpa [Value.cells] using hcs, some y, cp, by simp, by simp; unfold maxLen at hm; omega, by simp; omega, ?_⟩
    rcases Nat.eq_zero_or_pos l with h0 | h0
    · subst h0; exact .inl rfl
    · have hv := (hfm 0 h0).1
      rw [Nat.zero_mul, add9_zero] at hv
      obtain ⟨b, off, rfl⟩ := addr9_none hv
      refine .inr ⟨b, off, rfl, World.block_lt_of_cell? W _ hv, fun j hj => ?_⟩
      have hin : j < l := by simpa using hj
      have h2 := hfm j hin
      rw [add_off, add_off] at h2
      simpa using h2
set_option maxRecDepth 100000 in
/-- A name that came in. -/
theorem open_dn {H : Type} {enc : TypeId × Value → H} {W : World} {a : Option Addr} {n c : Nat} {d : DataW H} {p : List MemPlace}
    (h : DataW.Trod enc Tryz.prog W 0 (fun _ => true) true 23 (.slice a n c) d p) : ∃ D, IsDn W (.slice a n c) D := by
  obtain ⟨fuel, hf⟩ := h
  rcases open_slice Tryz.underlying23 hf with ⟨hcs, _⟩ | ⟨y, l, cp, m, fu2, D, Pl, hcs, _, hl, hm, hmm, _, hi⟩
  · simp [Value.cells] at hcs
    obtain ⟨rfl, rfl, rfl⟩ := hcs
    exact ⟨[], none, 0, rfl, by simp, by simp, .inl rfl⟩
  · simp [Value.cells] at hcs
    obtain ⟨rfl, rfl, rfl⟩ := hcs
    rw [cellsRdn] at hi
    have hm' : n ≤ m := by rw [hmm]; split <;> omega
    have hex : ∀ i : Nat, ∃ q : Value × List Mt.Av, i < n → W.cell? (y.add i) = some q.1 ∧ IsAvs W q.1 q.2 := by
      intro i
      by_cases hin : i < n
      · obtain ⟨cs', hc, ht⟩ := hi i (by omega)
        rw [Nat.mul_one] at hc
        obtain ⟨_, hlen, hat⟩ := World.cells?_some hc
        obtain ⟨x, r, rfl, hr⟩ := open_rdn ht (by simpa using hlen)
        refine ⟨(x, r), fun _ => ⟨?_, hr⟩⟩
        have := hat 0 (by decide); rw [add9_zero] at this; exact this
      · exact ⟨(.bool false, []), fun h => absurd h hin⟩
    obtain ⟨f, hfm⟩ := Classical.axiomOfChoice hex
    refine ⟨(List.range n).map fun i => (f i).2, some y, c, by simp, by simp; unfold maxLen at hm; omega, by simp; omega, ?_⟩
    rcases Nat.eq_zero_or_pos n with h0 | h0
    · subst h0; exact .inl rfl
    · have hv := (hfm 0 h0).1
      rw [add9_zero] at hv
      obtain ⟨b, off, rfl⟩ := addr9_none hv
      refine .inr ⟨b, off, rfl, World.block_lt_of_cell? W _ hv, fun j hj => ?_⟩
      have hin : j < n := by simpa using hj
      have h2 := hfm j hin
      rw [add_off] at h2
      exact ⟨_, h2.1, by simpa using h2.2⟩
end Go.Proofs.YtngdbhncafnliaaGreat
