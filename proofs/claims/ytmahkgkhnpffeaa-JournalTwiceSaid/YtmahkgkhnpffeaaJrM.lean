/-
  What fill comes to: bodies, one behind the other, and then the head.
-/
import Derived.Test.YtmahkgkhnpffeaaJrL
namespace Go.Proofs.Ytmahkgkhnpffeaa
open Go.RowKit

theorem Mt.putJ_keeps (d : Mt.Dk) (j : Mt.Jn) (b : List UInt8) : (Mt.putJ d j b).2.1.gen = j.gen ∧ (Mt.putJ d j b).2.1.half = j.half ∧ (Mt.putJ d j b).2.1.head = j.head ∧ (Mt.putJ d j b).2.1.closed = j.closed ∧ (Mt.putJ d j b).1.lasts.length = d.lasts.length := by
  unfold Mt.putJ
  split <;> exact ⟨rfl, rfl, rfl, rfl, Mt.wrS_len _ _ _⟩
theorem Mt.putJ_ok {d : Mt.Dk} {j : Mt.Jn} {b : List UInt8} (h : (Mt.putJ d j b).2.2 = 0) : (Mt.putJ d j b).2.1.count = j.count + 1 ∧ (Mt.putJ d j b).2.1.used = j.used + Mt.cellsN b.length := by
  unfold Mt.putJ at h ⊢
  split at h
  · rename_i hx; rw [if_pos hx]; exact ⟨rfl, rfl⟩
  · rename_i hx; exact absurd h hx
theorem Mt.putJ_bad {d : Mt.Dk} {j : Mt.Jn} {b : List UInt8} (h : (Mt.putJ d j b).2.2 ≠ 0) : (Mt.putJ d j b).2.1 = j := by
  unfold Mt.putJ at h ⊢
  split at h
  · exact absurd rfl h
  · rename_i hx; rw [if_neg hx]
theorem Mt.putsJ_keeps : ∀ (bs : List (List UInt8)) (d : Mt.Dk) (j : Mt.Jn), (Mt.putsJ d j bs).2.1.gen = j.gen ∧ (Mt.putsJ d j bs).2.1.half = j.half ∧ (Mt.putsJ d j bs).2.1.head = j.head ∧ (Mt.putsJ d j bs).2.1.closed = j.closed ∧ (Mt.putsJ d j bs).1.lasts.length = d.lasts.length
  | [], _, _ => ⟨rfl, rfl, rfl, rfl, rfl⟩
  | b :: r, d, j => by
    have h1 := Mt.putJ_keeps d j b
    unfold Mt.putsJ
    split
    · have h2 := Mt.putsJ_keeps r (Mt.putJ d j b).1 (Mt.putJ d j b).2.1
      exact ⟨h2.1.trans h1.1, h2.2.1.trans h1.2.1, h2.2.2.1.trans h1.2.2.1, h2.2.2.2.1.trans h1.2.2.2.1, h2.2.2.2.2.trans h1.2.2.2.2⟩
    · exact h1
theorem Mt.putsJ_ok : ∀ (bs : List (List UInt8)) (d : Mt.Dk) (j : Mt.Jn), (Mt.putsJ d j bs).2.2 = 0 → (Mt.putsJ d j bs).2.1.count = j.count + bs.length ∧ (Mt.putsJ d j bs).2.1.used = j.used + Mt.needs bs
  | [], _, _, _ => ⟨rfl, rfl⟩
  | b :: r, d, j, h => by
    unfold Mt.putsJ at h ⊢
    split at h
    · rename_i hx
      have h1 := Mt.putJ_ok hx
      have h2 := Mt.putsJ_ok r _ _ h
      rw [if_pos hx, h2.1, h2.2, h1.1, h1.2]
      exact ⟨by simp; omega, by simp only [Mt.needs]; omega⟩
    · rename_i hx; exact absurd h hx
theorem Mt.putsJ_snoc : ∀ (bs : List (List UInt8)) (b : List UInt8) (d : Mt.Dk) (j : Mt.Jn), (Mt.putsJ d j bs).2.2 = 0 → Mt.putsJ d j (bs ++ [b]) = Mt.putJ (Mt.putsJ d j bs).1 (Mt.putsJ d j bs).2.1 b
  | [], b, d, j, _ => by
    simp only [List.nil_append, Mt.putsJ]
    split
    · rename_i h; rw [← h]
    · rfl
  | x :: r, b, d, j, h => by
    simp only [List.cons_append, Mt.putsJ] at h ⊢
    split at h
    · rename_i hx; rw [if_pos hx, if_pos hx, Mt.putsJ_snoc r b _ _ h]
    · rename_i hx; exact absurd h hx
theorem Mt.putsJ_stop : ∀ (bs m : List (List UInt8)) (d : Mt.Dk) (j : Mt.Jn), (Mt.putsJ d j bs).2.2 ≠ 0 → Mt.putsJ d j (bs ++ m) = Mt.putsJ d j bs
  | [], m, d, j, h => absurd rfl h
  | x :: r, m, d, j, h => by
    simp only [List.cons_append, Mt.putsJ] at h ⊢
    split at h
    · rename_i hx; rw [if_pos hx, if_pos hx, Mt.putsJ_stop r m _ _ h]
    · rename_i hx; rw [if_neg hx, if_neg hx]
theorem Mt.putsJ_succ (bs : List (List UInt8)) (d : Mt.Dk) (j : Mt.Jn) (k : Nat) (hk : k < bs.length) (h : (Mt.putsJ d j (bs.take k)).2.2 = 0) : Mt.putsJ d j (bs.take (k + 1)) = Mt.putJ (Mt.putsJ d j (bs.take k)).1 (Mt.putsJ d j (bs.take k)).2.1 bs[k] := by
  rw [List.take_succ_eq_append_getElem hk, Mt.putsJ_snoc _ _ _ _ h]
theorem Mt.putsJ_end (bs : List (List UInt8)) (d : Mt.Dk) (j : Mt.Jn) (k : Nat) (h : (Mt.putsJ d j (bs.take k)).2.2 ≠ 0) : Mt.putsJ d j bs = Mt.putsJ d j (bs.take k) := by
  have e := Mt.putsJ_stop (bs.take k) (bs.drop k) d j h
  rwa [List.take_append_drop] at e
theorem Mt.needs_len : ∀ bs : List (List UInt8), bs.length ≤ Mt.needs bs
  | [] => Nat.le_refl _
  | b :: r => by
    have := Mt.needs_len r
    simp only [List.length_cons, Mt.needs, Mt.cellsN]
    omega
theorem Mt.needs_take (bs : List (List UInt8)) (k : Nat) : Mt.needs (bs.take k) ≤ Mt.needs bs := by
  have := Mt.needs_append (bs.take k) (bs.drop k)
  rw [List.take_append_drop] at this
  omega

section
variable {w u : World} {J B bl bm : Nat} {j : Mt.Jn} {d : Mt.Dk}
/-- Where a text lies, neither journal nor disk lies. -/
theorem JD.noStr (h : JD w J B bl bm j d) {b o : Nat} {s : ByteArray} (hc : w.cell? ⟨b, o, none⟩ = some (.string s)) : b ∉ [J, B, bl, bm] := by
  intro hm
  simp only [List.mem_cons, List.not_mem_nil, or_false] at hm
  rcases hm with rfl | rfl | rfl | rfl
  · have h1 := h.jn
    unfold IsJ jnV at h1
    simp [World.cell?, h1] at hc
    match o, hc with
    | 0, hc | 1, hc | 2, hc | 3, hc | 4, hc | 5, hc | 6, hc => simp at hc
    | o + 7, hc => simp at hc
  · have h1 := h.dk.row
    unfold dkCells at h1
    simp [World.cell?, h1] at hc
    match o, hc with
    | 0, hc | 1, hc | 2, hc | 3, hc | 4, hc | 5, hc | 6, hc | 7, hc => simp at hc
    | o + 8, hc => simp at hc
  · have h1 := h.dk.secs
    simp [World.cell?, h1, flat] at hc
    have := (Mt.cs_getD _ _ _ hc).2
    cases this
  · obtain ⟨D, ⟨es, clock, h1, _⟩, _⟩ := h.dk.waits
    simp [World.cell?, h1] at hc
theorem IsTs.only (h : JD w J B bl bm j d) {v : Value} {ls : List (List UInt8)} (ht : IsTs w v ls) (ho : OnlyS [J, B, bl, bm] w u) : IsTs u v ls := by
  obtain ⟨a, cap, h1, h2, h4⟩ := ht
  refine ⟨a, cap, h1, h2, ?_⟩
  rcases h4 with h4 | ⟨b, off, h5, h6, h7⟩
  · exact .inl h4
  · refine .inr ⟨b, off, h5, Nat.lt_of_lt_of_le h6 ho.size, fun i hi => ?_⟩
    rw [ho.cell (p := ⟨b, off + i, none⟩) h6 (h.noStr (h7 i hi))]
    exact h7 i hi
/-- Where fill stands behind k bodies. -/
structure FillAt (w wr : World) (J B bl bm : Nat) (j : Mt.Jn) (d : Mt.Dk) (bs : List (List UInt8)) (k : Nat) : Prop where
  jd : JD wr J B bl bm (Mt.putsJ d j (bs.take k)).2.1 (Mt.putsJ d j (bs.take k)).1
  ok : (Mt.putsJ d j (bs.take k)).2.2 = 0
  only : OnlyS [J, B, bl, bm] w wr
theorem FillAt.next {wr : World} {bs : List (List UInt8)} {k : Nat} (h : FillAt w wr J B bl bm j d bs k) (hk : k < bs.length) {E : Int} (hE : E = (Mt.putJ (Mt.putsJ d j (bs.take k)).1 (Mt.putsJ d j (bs.take k)).2.1 bs[k]).2.2)
    (hd : JD u J B bl bm (Mt.putJ (Mt.putsJ d j (bs.take k)).1 (Mt.putsJ d j (bs.take k)).2.1 bs[k]).2.1 (Mt.putJ (Mt.putsJ d j (bs.take k)).1 (Mt.putsJ d j (bs.take k)).2.1 bs[k]).1) (ho : OnlyS [J, B, bl, bm] wr u) :
    (E = 0 → FillAt w u J B bl bm j d bs (k + 1)) ∧ (E ≠ 0 → (Mt.fillJ d j bs).2.2 = E ∧ JD u J B bl bm (Mt.fillJ d j bs).2.1 (Mt.fillJ d j bs).1 ∧ OnlyS [J, B, bl, bm] w u) := by
  have hs := Mt.putsJ_succ bs d j k hk h.ok
  rw [← hs] at hE hd
  refine ⟨fun e => ⟨hd, hE.symm.trans e, h.only.trans ho⟩, fun e => ?_⟩
  have hne : (Mt.putsJ d j (bs.take (k + 1))).2.2 ≠ 0 := by rw [← hE]; exact e
  have he := Mt.putsJ_end _ _ _ _ hne
  have hf : Mt.fillJ d j bs = Mt.putsJ d j (bs.take (k + 1)) := by
    unfold Mt.fillJ
    rw [he, if_neg hne]
  rw [hf]
  exact ⟨hE.symm, hd, h.only.trans ho⟩
end
end Go.Proofs.Ytmahkgkhnpffeaa
