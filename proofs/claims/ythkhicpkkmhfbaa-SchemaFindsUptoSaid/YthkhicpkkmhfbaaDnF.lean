/-
  Names in memory. What the call dn.Parse comes to.
-/
import Derived.Test.YthkhicpkkmhfbaaDnE
namespace Go.Proofs.Ythkhicpkkmhfbaa
open Go.RowKit

/-- An RDN whose block is one of these. -/
def IsRdnB (w : World) (ok : Nat → Prop) (v : Value) (r : List Mt.Av) : Prop :=
  ∃ a cap, v = .slice a r.length cap ∧ r.length ≤ 9223372036854775807 ∧ r.length ≤ cap ∧ (r = [] ∨ ∃ b off, a = some ⟨b, off, none⟩ ∧ ok b ∧ b < w.heap.size ∧ ∀ j (hj : j < r.length), w.cell? ⟨b, off + j * 2, none⟩ = some (.string (Mt.str r[j].1)) ∧ w.cell? ⟨b, off + j * 2 + 1, none⟩ = some (.string (Mt.str r[j].2)))
theorem IsRdnB.avs {w : World} {ok : Nat → Prop} {v : Value} {r : List Mt.Av} (h : IsRdnB w ok v r) : IsAvs w v r := by
  obtain ⟨a, cap, h1, h2, h3, h4⟩ := h
  refine ⟨a, cap, h1, h2, h3, ?_⟩
  rcases h4 with h4 | ⟨b, off, h5, _, h6, h7⟩
  · exact .inl h4
  · exact .inr ⟨b, off, h5, h6, h7⟩
theorem IsRdnB.keep {w u : World} {ok ok' : Nat → Prop} {v : Value} {r : List Mt.Av} (h : IsRdnB w ok v r) (hok : ∀ b, ok b → b < w.heap.size → ok' b) (hb : ∀ b, ok b → b < w.heap.size → u.heap[b]? = w.heap[b]?) (hs : w.heap.size ≤ u.heap.size) : IsRdnB u ok' v r := by
  obtain ⟨a, cap, h1, h2, h3, h4⟩ := h
  refine ⟨a, cap, h1, h2, h3, ?_⟩
  rcases h4 with h4 | ⟨b, off, h5, h50, h6, h7⟩
  · exact .inl h4
  · refine .inr ⟨b, off, h5, hok b h50 h6, Nat.lt_of_lt_of_le h6 hs, fun j hj => ?_⟩
    have hc : ∀ o, u.cell? ⟨b, o, none⟩ = w.cell? ⟨b, o, none⟩ := fun o => by unfold World.cell?; rw [hb b h50 h6]
    rw [hc, hc]; exact h7 j hj
/-- The cells of a name: its RDNs, one a cell. -/
def AreRdns (w : World) (ok : Nat → Prop) (xs : List Value) (d : List (List Mt.Av)) : Prop := xs.length = d.length ∧ ∀ i (hi : i < d.length) x, xs[i]? = some x → IsRdnB w ok x d[i]
theorem AreRdns.keep {w u : World} {ok ok' : Nat → Prop} {xs : List Value} {d : List (List Mt.Av)} (h : AreRdns w ok xs d) (hok : ∀ b, ok b → b < w.heap.size → ok' b) (hb : ∀ b, ok b → b < w.heap.size → u.heap[b]? = w.heap[b]?) (hs : w.heap.size ≤ u.heap.size) : AreRdns u ok' xs d :=
  ⟨h.1, fun i hi x hx => (h.2 i hi x hx).keep hok hb hs⟩
theorem AreRdns.snoc {w : World} {ok : Nat → Prop} {xs : List Value} {d : List (List Mt.Av)} (h : AreRdns w ok xs d) {x : Value} {r : List Mt.Av} (hx : IsRdnB w ok x r) : AreRdns w ok (xs ++ [x]) (d ++ [r]) := by
  refine ⟨by simp [h.1], fun i hi y hy => ?_⟩
  by_cases hlt : i < d.length
  · rw [List.getElem?_append_left (by rw [h.1]; exact hlt)] at hy
    have e : (d ++ [r])[i] = d[i] := List.getElem_append_left hlt
    rw [e]; exact h.2 i hlt y hy
  · have hi2 : i = d.length := by simp at hi; omega
    subst hi2
    rw [List.getElem?_append_right (by rw [h.1]; exact Nat.le_refl _), h.1, Nat.sub_self] at hy
    cases hy
    have e : (d ++ [r])[d.length] = r := by simp
    rw [e]; exact hx
theorem AreRdns.one {w : World} {ok : Nat → Prop} {xs : List Value} {d : List (List Mt.Av)} (h : AreRdns w ok xs d) : ∀ u ∈ xs, u.oneCell' = true := by
  intro u hu
  obtain ⟨i, hi, rfl⟩ := List.mem_iff_getElem.1 hu
  obtain ⟨a, cap, h1, _⟩ := h.2 i (by rw [← h.1]; exact hi) _ (List.getElem?_eq_getElem hi)
  rw [h1]; rfl

/-- A name in memory, wherever it lies. -/
def IsDn (w : World) (v : Value) (d : List (List Mt.Av)) : Prop :=
  ∃ a cap, v = .slice a d.length cap ∧ d.length ≤ 9223372036854775807 ∧ d.length ≤ cap ∧ (d = [] ∨ ∃ b off, a = some ⟨b, off, none⟩ ∧ b < w.heap.size ∧ ∀ i (hi : i < d.length), ∃ x, w.cell? ⟨b, off + i, none⟩ = some x ∧ IsAvs w x d[i])
theorem IsDn.below {w u : World} {v : Value} {d : List (List Mt.Av)} (h : IsDn w v d) (hb : Below w.heap.size w u) : IsDn u v d := by
  obtain ⟨a, cap, h1, h2, h3, h4⟩ := h
  refine ⟨a, cap, h1, h2, h3, ?_⟩
  rcases h4 with h4 | ⟨b, off, h5, h6, h7⟩
  · exact .inl h4
  · refine .inr ⟨b, off, h5, Nat.lt_of_lt_of_le h6 hb.size, fun i hi => ?_⟩
    obtain ⟨x, hx, hr⟩ := h7 i hi
    exact ⟨x, (hb.cell (p := ⟨b, off + i, none⟩) h6).trans hx, hr.below hb⟩
/-- What Parse answers. -/
def ParsP (w : World) (res : Except Nat (List (List Mt.Av))) (x : Ending) (w' : World) : Prop :=
  Below w.heap.size w w' ∧ match res with
    | .error e => x = .returned (.tuple #[.slice none 0 0, .int .i64 e])
    | .ok d => ∃ v, x = .returned (.tuple #[v, .int .i64 0]) ∧ IsDn w' v d

theorem Mt.rdnF_len : ∀ {k : Nat} {acc : List Mt.Av} {l : List UInt8} {r : List Mt.Av} {rest : List UInt8}, Mt.rdnF k acc l = .ok (r, rest) → rest.length < l.length ∧ r.length ≤ acc.length + k
  | 0, acc, l, r, rest, h => by simp [Mt.rdnF] at h
  | k + 1, acc, l, r, rest, h => by
    simp only [Mt.rdnF] at h
    cases hc : Mt.cutE l with
    | none => rw [hc] at h; cases h
    | some p =>
      obtain ⟨t, r1⟩ := p
      rw [hc] at h
      simp only at h
      have h1 := Mt.cut_len hc
      split at h
      · cases h
      split at h
      · cases h
      cases hv : Mt.valL r1 with
      | none => rw [hv] at h; cases h
      | some p =>
        obtain ⟨x, r2⟩ := p
        rw [hv] at h
        simp only at h
        have h2 := Mt.valL_len hv
        split at h
        · have := Mt.rdnF_len h
          simp only [List.length_append, List.length_cons, List.length_nil] at this h2
          omega
        · cases h
          simp; omega

theorem Mt.rdnF_err : ∀ {k : Nat} {acc : List Mt.Av} {l : List UInt8} {e : Nat}, Mt.rdnF k acc l = .error e → 0 < e
  | 0, acc, l, e, h => by simp [Mt.rdnF] at h; omega
  | k + 1, acc, l, e, h => by
    simp only [Mt.rdnF] at h
    split at h
    · cases h; omega
    split at h
    · cases h; omega
    split at h
    · cases h; omega
    split at h
    · cases h; omega
    split at h
    · exact Mt.rdnF_err h
    · cases h
end Go.Proofs.Ythkhicpkkmhfbaa
