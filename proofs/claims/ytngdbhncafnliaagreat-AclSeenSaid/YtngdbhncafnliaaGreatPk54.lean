/-
  Some texts of one proof, one behind the other.
-/
import Derived.Test.YtngdbhncafnliaaGreatPk51
import Derived.Test.YtngdbhncafnliaaGreatPk52
import Derived.Test.YtngdbhncafnliaaGreatPk53
set_option linter.unusedVariables false
set_option linter.unusedSimpArgs false

/-
  What may be seen of attributes, and whether all of them: the program's and the document's.
-/
namespace Go.Proofs.YtngdbhncafnliaaGreat
open Go.RowKit
set_option linter.unusedVariables false

theorem FitAt.use {l : List Mt.At} (h : FitAt l) : l.length * 40 ≤ 140737488355328 ∧ ∀ a ∈ l, a.1.length ≤ 140737488351232 ∧ a.2.length ≤ 8796093022208 := ⟨by have := h.1; omega, h.2⟩
/-- What may be seen. -/
def Mt.seenA (admin : List (List Mt.Av)) (rs : List Mt.Ru) (who entry : List (List Mt.Av)) (right : Int) (l : List Mt.At) : List Mt.At := l.filter fun a => Mt.rmayA admin rs who entry a.1 right
theorem FitAt.seen {l : List Mt.At} (h : FitAt l) (admin : List (List Mt.Av)) (rs : List Mt.Ru) (who entry : List (List Mt.Av)) (right : Int) : FitAt (Mt.seenA admin rs who entry right l) :=
  ⟨Nat.le_trans (Nat.mul_le_mul_right 40 (List.length_filter_le _ l)) h.1, fun a ha => h.2 a (List.mem_filter.1 ha).1⟩
theorem Mt.allows_may {s : Mt.Sc} {admin : List (List Mt.Av)} {rs cs : List Mt.Ru} (h : Mt.newA s admin rs = .ok cs) (who entry : List (List Mt.Av)) (right : Int) (a : List UInt8) : Mt.allowsA (Mt.aboutA cs who entry right) a = Mt.rmayA admin rs who entry a right := by
  rw [← Mt.may_eq h]; rfl
theorem Mt.all_seen (P : List UInt8 → Bool) (l : List Mt.At) : (l.map (·.1)).all P = decide ((l.filter fun a => P a.1).length = l.length) := by
  rw [Bool.eq_iff_iff, List.all_eq_true, decide_eq_true_eq, List.length_filter_eq_length_iff]
  constructor
  · intro h a ha; exact h _ (List.mem_map.2 ⟨a, ha, rfl⟩)
  · intro h x hx
    obtain ⟨a, ha, rfl⟩ := List.mem_map.1 hx
    exact h a ha
section
variable {admin who entry : List (List Mt.Av)} {rs cs : List Mt.Ru} {l : List Mt.At} {u : World} {v2 v3 : Value} (right : Int)
theorem AtS.seen {lo : Nat} {w' : World} {a : Option Addr} {n c : Nat} {L : List Mt.At} (h : AtS lo w' (.slice a n c) L) : n = L.length ∧ IsAts w' (.slice a L.length c) L := by
  obtain ⟨a', c', e⟩ := h.form
  have hn : n = L.length := by injection e
  subst hn
  exact ⟨rfl, h.ats⟩
theorem seenB_any (hn : Mt.newA Mt.core admin rs = .ok cs) {bv av : Value} (hb : IsBk u bv cs) (h2 : IsDn u v2 who) (h3 : IsDn u v3 entry) (hl2 : who.length ≤ 140737488355327) (hl3 : entry.length ≤ 140737488355327) (ha : IsAts u av l) (hf : FitAt l) :
    Calls Tryz.prog 17 #[bv, v2, v3, av, .int .i64 right] u fun e w' => ∃ a c, e = .returned (.slice a (Mt.seenA admin rs who entry right l).length c) ∧ IsAts w' (.slice a (Mt.seenA admin rs who entry right l).length c) (Mt.seenA admin rs who entry right l) ∧ Below u.heap.size u w' := by
  have hL : (Mt.aboutA cs who entry right).length ≤ 4398046511104 := by
    have := Mt.about_len cs who entry right; obtain ⟨p, cv, -, -, -, hl⟩ := hb; omega
  refine (seen_of (aboutC_any right hb h2 h3 hl2 hl3) hL ha hf.use.1 hf.use.2).mono fun e w' ⟨a, n, c, h1, h4, h5⟩ => ?_
  have e1 : (l.filter fun a => Mt.allowsA (Mt.aboutA cs who entry right) a.1) = Mt.seenA admin rs who entry right l := by
    unfold Mt.seenA; congr 1; funext x; exact Mt.allows_may hn who entry right x.1
  rw [e1] at h4
  obtain ⟨rfl, h6⟩ := h4.seen
  exact ⟨a, c, h1, h6, h5⟩
theorem allB_any (hn : Mt.newA Mt.core admin rs = .ok cs) {bv nv : Value} (hb : IsBk u bv cs) (h2 : IsDn u v2 who) (h3 : IsDn u v3 entry) (hl2 : who.length ≤ 140737488355327) (hl3 : entry.length ≤ 140737488355327) (ha : IsNms u nv (l.map (·.1))) (hf : FitAt l) :
    Calls Tryz.prog 20 #[bv, v2, v3, .int .i64 right, nv] u fun e w' => e = .returned (.bool (Mt.rmayA admin rs who entry [] right && decide ((Mt.seenA admin rs who entry right l).length = l.length))) ∧ Below u.heap.size u w' := by
  have hL : (Mt.aboutA cs who entry right).length ≤ 4398046511104 := by
    have := Mt.about_len cs who entry right; obtain ⟨p, cv, -, -, -, hl⟩ := hb; omega
  have e1 : (Mt.allowsA (Mt.aboutA cs who entry right) [] && (l.map (·.1)).all (Mt.allowsA (Mt.aboutA cs who entry right))) = (Mt.rmayA admin rs who entry [] right && decide ((Mt.seenA admin rs who entry right l).length = l.length)) := by
    have e2 : Mt.allowsA (Mt.aboutA cs who entry right) = fun a => Mt.rmayA admin rs who entry a right := by funext x; exact Mt.allows_may hn who entry right x
    rw [e2, Mt.all_seen]; rfl
  rw [← e1]
  exact all_of (aboutC_any right hb h2 h3 hl2 hl3) hL ha (by rw [List.length_map]; have := hf.1; omega) (fun a h => by
    obtain ⟨x, hx, rfl⟩ := List.mem_map.1 h
    exact (hf.2 x hx).1)
theorem rseenB_any (hn : Mt.newA Mt.core admin rs = .ok cs) {v1 v4 av : Value} (h1 : IsDn u v1 admin) (h4 : IsRus u v4 rs) (h2 : IsDn u v2 who) (h3 : IsDn u v3 entry) (f1 : Mt.FitD admin) (f2 : Mt.FitD who) (f3 : Mt.FitD entry) (hr : ∀ r ∈ rs, Mt.FitRu r) (hl : rs.length * 72 ≤ 140737488351232) (ha : IsAts u av l) (hf : FitAt l) :
    Calls Tryz.prog 18 #[v1, v4, v2, v3, av, .int .i64 right] u fun e w' => ∃ a c, e = .returned (.slice a (Mt.seenA admin rs who entry right l).length c) ∧ IsAts w' (.slice a (Mt.seenA admin rs who entry right l).length c) (Mt.seenA admin rs who entry right l) ∧ Below u.heap.size u w' := by
  refine (rseen_of (F := fun a => Mt.rmayA admin rs who entry a right) (fun x hx nm hnm => rmay22_any nm (h1.below hx) (h4.below hx) (h2.below hx) (h3.below hx) (Mt.fitD_T f1) (Mt.fitD_T f2) (Mt.fitD_T f3) (Mt.new_sound hn hr) hnm (by omega)) ha hf.use.1 hf.use.2).mono fun e w' ⟨a, n, c, h5, h6, h7⟩ => ?_
  have h8 : AtS u.heap.size w' (.slice a n c) (Mt.seenA admin rs who entry right l) := h6
  obtain ⟨rfl, h9⟩ := h8.seen
  exact ⟨a, c, h5, h9, h7⟩
end
theorem twinB_any {l : List Mt.At} {u : World} {av : Value} (ha : IsAts u av l) (hf : FitAt l) :
    Calls Tryz.prog 16 #[av] u fun e w' => ∃ a c, e = .returned (.slice a l.length c) ∧ IsAts w' (.slice a l.length c) l ∧ Below u.heap.size u w' :=
  (twin14_any ha hf.use.1 hf.use.2).mono fun e w' ⟨a, n, c, h1, h2, h3⟩ => by
    obtain ⟨rfl, h4⟩ := h2.seen
    exact ⟨a, c, h1, h4, h3⟩
end Go.Proofs.YtngdbhncafnliaaGreat
