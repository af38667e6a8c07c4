/-
  Some texts of one proof, one behind the other.
-/
import Derived.Deep.QuietTactic
import Derived.BigQuiet
import Derived.Test.YtkinemlgifeimaaPk2
import Derived.Test.YtkinemlgifeimaaPk21
set_option linter.unusedVariables false
set_option linter.unusedSimpArgs false

/-
  What the call dn.readValue comes to.
-/
namespace Go.Proofs.Ytkinemlgifeimaa
open Go.RowKit

/-- What readValue answers. -/
def valV : Option (List UInt8 × List UInt8) → Value
  | none => .tuple #[.string ByteArray.empty, .string ByteArray.empty, .bool false]
  | some (a, b) => .tuple #[.string (Mt.str a), .string (Mt.str b), .bool true]
theorem Mt.byte_size {l : List UInt8} {c : UInt8} {n : Nat} (h : Mt.byteL l = some (c, n)) : 1 ≤ n ∧ n ≤ l.length := by
  match l with
  | [] => simp [Mt.byteL] at h
  | c :: r =>
    simp only [Mt.byteL] at h
    split at h
    · cases h; simp
    · match r with
      | [] => simp at h
      | d :: r2 =>
        simp only at h
        split at h
        · cases h; simp
        · match r2 with
          | [] => simp at h
          | e :: r3 =>
            simp only at h
            split at h
            · cases h; simp
            · cases h
/-- The fuel plays no part. -/
theorem Mt.valF_more : ∀ (k m : Nat) (v l : List UInt8), l.length < k → l.length < m → Mt.valF k v l = Mt.valF m v l
  | 0, _, _, _, h, _ => by omega
  | _, 0, _, _, _, h => by omega
  | k + 1, m + 1, v, l, h1, h2 => by
    simp only [Mt.valF]
    split
    · rfl
    · cases hb : Mt.byteL l with
      | none => rfl
      | some p =>
        obtain ⟨c, n⟩ := p
        have hn := Mt.byte_size hb
        simp only
        split
        · rfl
        · exact Mt.valF_more k m _ _ (by rw [List.length_drop]; omega) (by rw [List.length_drop]; omega)

def szOf : Value → Nat | .string x => x.size | _ => 0
end Go.Proofs.Ytkinemlgifeimaa

/-
  What the call dn.readRDN comes to.
-/
namespace Go.Proofs.Ytkinemlgifeimaa
open Go.RowKit

/-- The cells of types and values. -/
def avs (r : List Mt.Av) : List Value := r.flatMap fun a => [.string (Mt.str a.1), .string (Mt.str a.2)]
theorem avs_length : ∀ r : List Mt.Av, (avs r).length = r.length * 2
  | [] => rfl
  | a :: r => by
    have := avs_length r
    simp only [avs, List.flatMap_cons, List.length_append, List.length_cons, List.length_nil] at this ⊢
    omega
theorem avs_append (a b : List Mt.Av) : avs (a ++ b) = avs a ++ avs b := by simp [avs]
theorem avs_one (r : List Mt.Av) : ∀ u ∈ avs r, u.oneCell' = true := by
  intro u hu
  simp only [avs, List.mem_flatMap] at hu
  obtain ⟨a, _, h⟩ := hu
  simp at h
  rcases h with rfl | rfl <;> rfl
theorem avs_get : ∀ (r : List Mt.Av) (j : Nat) (hj : j < r.length), (avs r)[j * 2]? = some (.string (Mt.str r[j].1)) ∧ (avs r)[j * 2 + 1]? = some (.string (Mt.str r[j].2))
  | [], j, hj => by simp at hj
  | a :: r, 0, _ => ⟨rfl, rfl⟩
  | a :: r, j + 1, hj => by
    have h := avs_get r j (by simpa using hj)
    have e : avs (a :: r) = .string (Mt.str a.1) :: .string (Mt.str a.2) :: avs r := rfl
    rw [e, show (j + 1) * 2 = j * 2 + 2 by omega]
    exact h
theorem Mt.typ_len {l : List UInt8} (h : Mt.typL l = true) : l.length ≤ 32 := by
  match l with
  | [] => simp
  | c :: r => simp [Mt.typL] at h; simp; omega
theorem Mt.cut_len : ∀ {l a b : List UInt8}, Mt.cutE l = some (a, b) → a.length + b.length + 1 = l.length
  | [], a, b, h => by simp [Mt.cutE] at h
  | c :: r, a, b, h => by
    simp only [Mt.cutE] at h
    split at h
    · cases h; simp
    · cases hr : Mt.cutE r with
      | none => rw [hr] at h; cases h
      | some p =>
        obtain ⟨x, y⟩ := p
        rw [hr] at h; cases h
        have := Mt.cut_len hr
        simp; omega
theorem Mt.valF_len : ∀ {k : Nat} {v l a b : List UInt8}, Mt.valF k v l = some (a, b) → a.length + b.length ≤ v.length + l.length ∧ b.length ≤ l.length
  | 0, v, l, a, b, h => by simp [Mt.valF] at h
  | k + 1, v, l, a, b, h => by
    simp only [Mt.valF] at h
    split at h
    · cases h; exact ⟨Nat.le_refl _, Nat.le_refl _⟩
    · cases hb : Mt.byteL l with
      | none => rw [hb] at h; cases h
      | some p =>
        obtain ⟨c, n⟩ := p
        have hn := Mt.byte_size hb
        rw [hb] at h
        simp only at h
        split at h
        · cases h
        · have := Mt.valF_len h
          simp only [List.length_drop, List.length_append, List.length_singleton] at this
          omega
theorem Mt.valL_len {l a b : List UInt8} (h : Mt.valL l = some (a, b)) : a.length ≤ l.length ∧ b.length ≤ l.length := by
  have := Mt.valF_len h
  simp only [List.length_nil] at this
  omega

end Go.Proofs.Ytkinemlgifeimaa

/-
  Names in memory. What the call dn.Parse comes to.
-/
namespace Go.Proofs.Ytkinemlgifeimaa
open Go.RowKit

/-- An RDN whose block is one of these. -/
def IsRdnB (w : World) (ok : Nat → Prop) (v : Value) (r : List Mt.Av) : Prop :=
  ∃ a cap, v = .slice a r.length cap ∧ r.length ≤ 9223372036854775807 ∧ r.length ≤ cap ∧ (r = [] ∨ ∃ b off, a = some ⟨b, off, none⟩ ∧ ok b ∧ b < w.heap.size ∧ ∀ j (hj : j < r.length), w.cell? ⟨b, off + j * 2, none⟩ = some (.string (Mt.str r[j].1)) ∧ w.cell? ⟨b, off + j * 2 + 1, none⟩ = some (.string (Mt.str r[j].2)))
theorem IsRdnB.avs {w : World} {ok : Nat → Prop} {v : Value} {r : List Mt.Av} (h : IsRdnB w ok v r) : IsAvs w v r := by
  obtain ⟨a, cap, h1, h2, h3, h4⟩ := h
  refine ⟨a, cap, h1, h2, h3, ?_⟩
  rcases h4 with h4 | ⟨b, off, h5, _, h6, h7⟩
  · exact .inl h4
  · exact .inr ⟨b, off, h5, h6, h7⟩
theorem IsRdnB.keep {w u : World} {ok ok' : Nat → Prop} {v : Value} {r : List Mt.Av} (h : IsRdnB w ok v r) (hok : ∀ b, ok b → b < w.heap.size → ok' b) (hb : ∀ b, ok b → b < w.heap.size → u.heap[b]? = w.heap[b]?) (hs : w.heap.size ≤ u.heap.size) : IsRdnB u ok' v r := by
  obtain ⟨a, cap, h1, h2, h3, h4⟩ := h
  refine ⟨a, cap, h1, h2, h3, ?_⟩
  rcases h4 with h4 | ⟨b, off, h5, h50, h6, h7⟩
  · exact .inl h4
  · refine .inr ⟨b, off, h5, hok b h50 h6, Nat.lt_of_lt_of_le h6 hs, fun j hj => ?_⟩
    have hc : ∀ o, u.cell? ⟨b, o, none⟩ = w.cell? ⟨b, o, none⟩ := fun o => by unfold World.cell?; rw [hb b h50 h6]
    rw [hc, hc]; exact h7 j hj
/-- The cells of a name: its RDNs, one a cell. -/
def AreRdns (w : World) (ok : Nat → Prop) (xs : List Value) (d : List (List Mt.Av)) : Prop := xs.length = d.length ∧ ∀ i (hi : i < d.length) x, xs[i]? = some x → IsRdnB w ok x d[i]
theorem AreRdns.keep {w u : World} {ok ok' : Nat → Prop} {xs : List Value} {d : List (List Mt.Av)} (h : AreRdns w ok xs d) (hok : ∀ b, ok b → b < w.heap.size → ok' b) (hb : ∀ b, ok b → b < w.heap.size → u.heap[b]? = w.heap[b]?) (hs : w.heap.size ≤ u.heap.size) : AreRdns u ok' xs d :=
  ⟨h.1, fun i hi x hx => (h.2 i hi x hx).keep hok hb hs⟩
theorem AreRdns.snoc {w : World} {ok : Nat → Prop} {xs : List Value} {d : List (List Mt.Av)} (h : AreRdns w ok xs d) {x : Value} {r : List Mt.Av} (hx : IsRdnB w ok x r) : AreRdns w ok (xs ++ [x]) (d ++ [r]) := by
  refine ⟨by simp [h.1], fun i hi y hy => ?_⟩
  by_cases hlt : i < d.length
  · rw [List.getElem?_append_left (by rw [h.1]; exact hlt)] at hy
    have e : (d ++ [r])[i] = d[i] := List.getElem_append_left hlt
    rw [e]; exact h.2 i hlt y hy
  · have hi2 : i = d.length := by simp at hi; omega
    subst hi2
    rw [List.getElem?_append_right (by rw [h.1]; exact Nat.le_refl _), h.1, Nat.sub_self] at hy
    cases hy
    have e : (d ++ [r])[d.length] = r := by simp
    rw [e]; exact hx
theorem AreRdns.one {w : World} {ok : Nat → Prop} {xs : List Value} {d : List (List Mt.Av)} (h : AreRdns w ok xs d) : ∀ u ∈ xs, u.oneCell' = true := by
  intro u hu
  obtain ⟨i, hi, rfl⟩ := List.mem_iff_getElem.1 hu
  obtain ⟨a, cap, h1, _⟩ := h.2 i (by rw [← h.1]; exact hi) _ (List.getElem?_eq_getElem hi)
  rw [h1]; rfl

/-- A name in memory, wherever it lies. -/
def IsDn (w : World) (v : Value) (d : List (List Mt.Av)) : Prop :=
  ∃ a cap, v = .slice a d.length cap ∧ d.length ≤ 9223372036854775807 ∧ d.length ≤ cap ∧ (d = [] ∨ ∃ b off, a = some ⟨b, off, none⟩ ∧ b < w.heap.size ∧ ∀ i (hi : i < d.length), ∃ x, w.cell? ⟨b, off + i, none⟩ = some x ∧ IsAvs w x d[i])
theorem IsDn.below {w u : World} {v : Value} {d : List (List Mt.Av)} (h : IsDn w v d) (hb : Below w.heap.size w u) : IsDn u v d := by
  obtain ⟨a, cap, h1, h2, h3, h4⟩ := h
  refine ⟨a, cap, h1, h2, h3, ?_⟩
  rcases h4 with h4 | ⟨b, off, h5, h6, h7⟩
  · exact .inl h4
  · refine .inr ⟨b, off, h5, Nat.lt_of_lt_of_le h6 hb.size, fun i hi => ?_⟩
    obtain ⟨x, hx, hr⟩ := h7 i hi
    exact ⟨x, (hb.cell (p := ⟨b, off + i, none⟩) h6).trans hx, hr.below hb⟩
/-- What Parse answers. -/
def ParsP (w : World) (res : Except Nat (List (List Mt.Av))) (x : Ending) (w' : World) : Prop :=
  Below w.heap.size w w' ∧ match res with
    | .error e => x = .returned (.tuple #[.slice none 0 0, .int .i64 e])
    | .ok d => ∃ v, x = .returned (.tuple #[v, .int .i64 0]) ∧ IsDn w' v d

theorem Mt.rdnF_len : ∀ {k : Nat} {acc : List Mt.Av} {l : List UInt8} {r : List Mt.Av} {rest : List UInt8}, Mt.rdnF k acc l = .ok (r, rest) → rest.length < l.length ∧ r.length ≤ acc.length + k
  | 0, acc, l, r, rest, h => by simp [Mt.rdnF] at h
  | k + 1, acc, l, r, rest, h => by
    simp only [Mt.rdnF] at h
    cases hc : Mt.cutE l with
    | none => rw [hc] at h; cases h
    | some p =>
      obtain ⟨t, r1⟩ := p
      rw [hc] at h
      simp only at h
      have h1 := Mt.cut_len hc
      split at h
      · cases h
      split at h
      · cases h
      cases hv : Mt.valL r1 with
      | none => rw [hv] at h; cases h
      | some p =>
        obtain ⟨x, r2⟩ := p
        rw [hv] at h
        simp only at h
        have h2 := Mt.valL_len hv
        split at h
        · have := Mt.rdnF_len h
          simp only [List.length_append, List.length_cons, List.length_nil] at this h2
          omega
        · cases h
          simp; omega

theorem Mt.rdnF_err : ∀ {k : Nat} {acc : List Mt.Av} {l : List UInt8} {e : Nat}, Mt.rdnF k acc l = .error e → 0 < e
  | 0, acc, l, e, h => by simp [Mt.rdnF] at h; omega
  | k + 1, acc, l, e, h => by
    simp only [Mt.rdnF] at h
    split at h
    · cases h; omega
    split at h
    · cases h; omega
    split at h
    · cases h; omega
    split at h
    · cases h; omega
    split at h
    · exact Mt.rdnF_err h
    · cases h
end Go.Proofs.Ytkinemlgifeimaa

/-
  What the document's Same comes to.
-/
namespace Go.Proofs.Ytkinemlgifeimaa
open Go.RowKit

theorem IsDn.row {w : World} {a : Option Addr} {n cap : Nat} {d : List (List Mt.Av)} (h : IsDn w (.slice a n cap) d) (j : Nat) (hj : j < d.length) : ∃ b off, a = some ⟨b, off, none⟩ ∧ ∃ x, IsAvs w x d[j] ∧ ∀ u, Below w.heap.size w u → u.cell? ⟨b, off + j, none⟩ = some x := by
  obtain ⟨a1, cap1, h1, _, _, h4⟩ := h
  cases h1
  rcases h4 with h | ⟨b, off, h1, h2, h3⟩
  · subst h; simp at hj
  · obtain ⟨x, h4, h5⟩ := h3 j hj
    exact ⟨b, off, h1, x, h5, fun u hu => (hu.cell (p := ⟨b, off + j, none⟩) h2).trans h4⟩
theorem IsAvs.row {w : World} {a : Option Addr} {n cap : Nat} {r : List Mt.Av} (h : IsAvs w (.slice a n cap) r) (j : Nat) (hj : j < r.length) : ∃ b off, a = some ⟨b, off, none⟩ ∧ ∀ u, Below w.heap.size w u → u.cell? ⟨b, off + j * 2, none⟩ = some (.string (Mt.str r[j].1)) ∧ u.cell? ⟨b, off + j * 2 + 1, none⟩ = some (.string (Mt.str r[j].2)) := by
  obtain ⟨a1, cap1, h1, _, _, h4⟩ := h
  cases h1
  rcases h4 with h | ⟨b, off, h1, h2, h3⟩
  · subst h; simp at hj
  · exact ⟨b, off, h1, fun u hu => ⟨(hu.cell (p := ⟨b, off + j * 2, none⟩) h2).trans (h3 j hj).1, (hu.cell (p := ⟨b, off + j * 2 + 1, none⟩) h2).trans (h3 j hj).2⟩⟩
theorem Below.drewK {B : Nat} {a w : World} (h : Below B a w) (m : Nat) : Below B a (w.drewN m) := ⟨h.os, h.tape, h.output, h.size, h.block⟩
theorem Mt.ext_of {α : Type} {a b : List α} (hl : a.length = b.length) (h : ∀ j (h1 : j < a.length) (h2 : j < b.length), a[j] = b[j]) : a = b := List.ext_getElem hl h

end Go.Proofs.Ytkinemlgifeimaa
