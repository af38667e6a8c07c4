/-
  Some texts of one proof, one behind the other.
-/
import Derived.Test.YtnioagojiipjlaaGreatPk21
import Derived.Test.YtnioagojiipjlaaGreatPk27
import Derived.Test.YtnioagojiipjlaaGreatPk38
import Derived.Test.YtnioagojiipjlaaGreatPk47
set_option linter.unusedVariables false
set_option linter.unusedSimpArgs false

/-
  Both journals over both disks, side by side.
-/
namespace Go.Proofs.YtnioagojiipjlaaGreat
open Go.RowKit Go.Maps
section
variable {base : Nat} {w u x : World} {B bl bm J Q : Nat} {g : Rg} {t t' : Nat} {d d1 d2 : Mt.Dk} {j j1 j2 : Mt.Jn} {sl : Int}
/-- The program's blocks are written: the document's disk stays. -/
theorem IsR.apart (h : IsR w g t d) {S : List Nat} (ho : OnlyS S w u) (hS : ∀ k ∈ S, (k < g.D ∨ g.P k) ∧ k ≠ g.R ∧ k ≠ g.bl ∧ k ≠ g.bw) : IsR u g t d := by
  obtain ⟨lim, most, tv, tn, tcs, h, ht⟩ := h
  have hk : ∀ k, k < w.heap.size → k ∉ S → u.heap[k]? = w.heap[k]? := fun k h1 h2 => ho.block k h1 h2
  have hR : g.R ∉ S := fun hm => (hS _ hm).2.1 rfl
  have hL : g.bl ∉ S := fun hm => (hS _ hm).2.2.1 rfl
  have hW : g.bw ∉ S := fun hm => (hS _ hm).2.2.2 rfl
  refine ⟨lim, most, tv, tn, tcs, ⟨h.ok, by rw [hk _ (lt_of_block h.row) hR]; exact h.row, fun hn => ?_, fun hn => ?_, ?_, h.ltR, h.apart, Nat.le_trans h.size ho.size, h.room, h.most, h.prot, fun b hb => Nat.lt_of_lt_of_le (h.ltP b hb) ho.size⟩, ht⟩
  · obtain ⟨cs, e1, e2⟩ := h.lasts hn
    exact ⟨cs, by rw [hk _ (lt_of_block e1) hL]; exact e1, e2⟩
  · obtain ⟨cs, e1, e2⟩ := h.waits hn
    exact ⟨cs, by rw [hk _ (lt_of_block e1) hW]; exact e1, e2⟩
  · have ho2 := h.tears
    refine ⟨ho2.1, ?_⟩
    rcases ho2.2 with h0 | ⟨gg, cap, cur, e1, e2, e3, e4⟩
    · exact .inl h0
    · have hne : gg ∉ S := by
        intro hm
        rcases (hS gg hm).1 with h5 | h5
        · omega
        · exact h.prot gg (by rw [e1]; rfl) h5
      exact .inr ⟨gg, cap, cur, e1, e2, by rw [hk _ (lt_of_block e3) hne]; exact e3, e4⟩
/-- Where all lies. -/
structure Apart (base : Nat) (B bl bm : Nat) (g : Rg) : Prop where
  lt : B < g.D ∧ bl < g.D ∧ bm < g.D
  ap : ∀ x ∈ [B, bl, bm], x ≠ g.R ∧ x ≠ g.bl ∧ x ≠ g.bw
  up : base ≤ B ∧ base ≤ bl ∧ base ≤ bm ∧ base ≤ g.R ∧ base ≤ g.bl ∧ base ≤ g.bw ∧ base ≤ g.D
/-- The program's side: its disk, and its journal, if there is one. -/
def Prog (w : World) (B bl bm : Nat) (d : Mt.Dk) : Option (Nat × Mt.Jn) → Prop
  | none => IsDisk w B bl bm d
  | some (J, j) => JD w J B bl bm j d
/-- The document's side. -/
def Docu (w : World) (g : Rg) (t : Nat) (d : Mt.Dk) : Option (Nat × Mt.Jn × Int) → Prop
  | none => IsR w g t d
  | some (Q, j, sl) => QD w Q g t j sl d
/-- Both, side by side; the journals' blocks are kept. -/
structure Syn (base : Nat) (w : World) (B bl bm : Nat) (g : Rg) (t : Nat) (d1 d2 : Mt.Dk) (o1 : Option (Nat × Mt.Jn)) (o2 : Option (Nat × Mt.Jn × Int)) : Prop where
  apart : Apart base B bl bm g
  one : Prog w B bl bm d1 o1
  two : Docu w g t d2 o2
  j1 : ∀ J j, o1 = some (J, j) → g.P J ∧ base ≤ J ∧ J ≠ g.R ∧ J ≠ g.bl ∧ J ≠ g.bw
  j2 : ∀ Q j sl, o2 = some (Q, j, sl) → base ≤ Q ∧ Q ≠ B ∧ Q ≠ bl ∧ Q ≠ bm
  ne : ∀ J j Q j' sl, o1 = some (J, j) → o2 = some (Q, j', sl) → J ≠ Q
theorem Docu.isR {o2 : Option (Nat × Mt.Jn × Int)} (h : Docu w g t d o2) : IsR w g t d := by
  cases o2 with
  | none => exact h
  | some p => obtain ⟨Q, j, sl⟩ := p; exact QD.dk h
theorem Prog.isD {o1 : Option (Nat × Mt.Jn)} (h : Prog w B bl bm d o1) : IsDisk w B bl bm d := by
  cases o1 with
  | none => exact h
  | some p => obtain ⟨J, j⟩ := p; exact JD.dk h
/-- What is written, of the program's side. -/
def progS (B bl bm : Nat) : Option (Nat × Mt.Jn) → List Nat
  | none => [B, bl, bm]
  | some (J, _) => [J, B, bl, bm]
theorem Syn.writes {o1 : Option (Nat × Mt.Jn)} {o2 : Option (Nat × Mt.Jn × Int)} (h : Syn base w B bl bm g t d1 d2 o1 o2) : ∀ k ∈ progS B bl bm o1, (k < g.D ∨ g.P k) ∧ k ≠ g.R ∧ k ≠ g.bl ∧ k ≠ g.bw := by
  intro k hk
  have h3 : k ∈ [B, bl, bm] → (k < g.D ∨ g.P k) ∧ k ≠ g.R ∧ k ≠ g.bl ∧ k ≠ g.bw := fun hm => by
    refine ⟨.inl ?_, h.apart.ap k hm⟩
    have := h.apart.lt
    simp only [List.mem_cons, List.not_mem_nil, or_false] at hm
    rcases hm with rfl | rfl | rfl <;> omega
  cases o1 with
  | none => exact h3 hk
  | some p =>
    obtain ⟨J, j⟩ := p
    rcases List.mem_cons.1 hk with rfl | hk
    · have := h.j1 _ _ rfl
      exact ⟨.inr this.1, this.2.2.1, this.2.2.2.1, this.2.2.2.2⟩
    · exact h3 hk
/-- Behind a call of the program's side. -/
theorem Syn.first {o1 o1' : Option (Nat × Mt.Jn)} {o2 : Option (Nat × Mt.Jn × Int)} {d' : Mt.Dk} (h : Syn base w B bl bm g t d1 d2 o1 o2) (ho : OnlyS (progS B bl bm o1) w u) (h1 : Prog u B bl bm d' o1') (hsame : o1'.map Prod.fst = o1.map Prod.fst) : Syn base u B bl bm g t d' d2 o1' o2 ∧ Below base w u := by
  have hw := h.writes
  have hbase : ∀ k ∈ progS B bl bm o1, base ≤ k := by
    intro k hk
    have hu := h.apart.up
    cases o1 with
    | none =>
      simp only [progS, List.mem_cons, List.not_mem_nil, or_false] at hk
      rcases hk with rfl | rfl | rfl <;> omega
    | some p =>
      obtain ⟨J, j⟩ := p
      have := h.j1 _ _ rfl
      simp only [progS, List.mem_cons, List.not_mem_nil, or_false] at hk
      rcases hk with rfl | rfl | rfl | rfl <;> omega
  have hsz := h.two.isR.size
  have hj : ∀ J j, o1' = some (J, j) → ∃ j0, o1 = some (J, j0) := fun J j e => by
    subst e
    cases o1 with
    | none => cases hsame
    | some p => obtain ⟨J0, j0⟩ := p; simp at hsame; subst hsame; exact ⟨j0, rfl⟩
  refine ⟨⟨h.apart, h1, ?_, fun J j e => ?_, h.j2, fun J j Q j' sl e1 e2 => ?_⟩, ho.toBelow hbase (by have := h.apart.up; omega)⟩
  · cases o2 with
    | none => exact h.two.isR.apart ho hw
    | some p =>
      obtain ⟨Q, jq, sl⟩ := p
      have hq : QD w Q g t jq sl d2 := h.two
      refine ⟨(ho.block Q (lt_of_block hq.jn) fun hm => ?_).trans hq.jn, hq.dk.apart ho hw, hq.kept, hq.ne, hq.four, hq.half, hq.head, hq.gen, hq.used, hq.count, hq.slot⟩
      have h2 := h.j2 _ _ _ rfl
      cases o1 with
      | none =>
        simp only [progS, List.mem_cons, List.not_mem_nil, or_false] at hm
        omega
      | some p =>
        obtain ⟨J, j⟩ := p
        have h3 := h.ne J j Q jq sl rfl rfl
        simp only [progS, List.mem_cons, List.not_mem_nil, or_false] at hm
        omega
  · obtain ⟨j0, e0⟩ := hj J j e
    exact h.j1 J j0 e0
  · obtain ⟨j0, e0⟩ := hj J j e1
    exact h.ne J j0 Q j' sl e0 e2
end
end Go.Proofs.YtnioagojiipjlaaGreat

/-
  Both journals over both disks: behind a call of the document's side; new journals.
-/
namespace Go.Proofs.YtnioagojiipjlaaGreat
open Go.RowKit Go.Maps
/-- What a call of the document's side leaves as it was. -/
def FrO (g : Rg) (w u : World) : Option (Nat × Mt.Jn × Int) → Prop
  | none => Fr g w u
  | some (Q, _, _) => FrQ g Q w u
section
variable {base : Nat} {w u x : World} {B bl bm J Q : Nat} {g : Rg} {t t' : Nat} {d d' d1 d2 : Mt.Dk} {j j1 j2 : Mt.Jn} {sl : Int} {o1 o1' : Option (Nat × Mt.Jn)} {o2 o2' : Option (Nat × Mt.Jn × Int)}
theorem FrO.block (h : FrO g w u o2) : w.heap.size ≤ u.heap.size ∧ u.os = w.os ∧ u.tape = w.tape ∧ u.output = w.output ∧ ∀ k, (k < g.D ∨ g.P k) → k < w.heap.size → k ≠ g.R → k ≠ g.bl → k ≠ g.bw → (∀ Q j sl, o2 = some (Q, j, sl) → k ≠ Q) → u.heap[k]? = w.heap[k]? := by
  cases o2 with
  | none => exact ⟨Fr.size h, Fr.os h, Fr.tape h, Fr.output h, fun k a b c d e _ => Fr.block h k a b c d e⟩
  | some p =>
    obtain ⟨Q, j, sl⟩ := p
    exact ⟨FrQ.size h, FrQ.os h, FrQ.tape h, FrQ.output h, fun k a b c d e f => FrQ.block h k a b c d e (f _ _ _ rfl)⟩
/-- A call of the disk alone. -/
theorem Fr.toO (h : Fr g w u) (o2 : Option (Nat × Mt.Jn × Int)) : FrO g w u o2 := by
  cases o2 with
  | none => exact h
  | some p => obtain ⟨Q, j, sl⟩ := p; exact h.toQ Q
theorem Syn.below (h : Syn base w B bl bm g t d1 d2 o1 o2) (hb : Below w.heap.size w u) : Syn base u B bl bm g t d1 d2 o1 o2 := by
  refine ⟨h.apart, ?_, ?_, h.j1, h.j2, h.ne⟩
  · cases o1 with
    | none => exact IsDisk.below h.one hb
    | some p => obtain ⟨J, j⟩ := p; exact JD.below h.one hb
  · cases o2 with
    | none => exact IsR.below h.two hb
    | some p => obtain ⟨Q, j, sl⟩ := p; exact QD.below h.two hb
theorem Syn.size (h : Syn base w B bl bm g t d1 d2 o1 o2) : base ≤ w.heap.size := by
  have h1 := h.two.isR.size
  have h2 := h.apart.up
  omega
theorem JD.blocks (h : JD w J B bl bm j d) : J < w.heap.size ∧ B < w.heap.size ∧ bl < w.heap.size ∧ bm < w.heap.size := h.lt
/-- Behind a call of the document's side. -/
theorem Syn.second (h : Syn base w B bl bm g t d1 d2 o1 o2) (hf : FrO g w u o2) (h2 : Docu u g t' d' o2') (hsame : o2'.map Prod.fst = o2.map Prod.fst) : Syn base u B bl bm g t' d1 d' o1 o2' ∧ Below base w u := by
  obtain ⟨hs, hos, htp, hout, hk⟩ := hf.block
  have hq : ∀ k, k ∈ [B, bl, bm] → k < w.heap.size → u.heap[k]? = w.heap[k]? := fun k hm hl => by
    have hp := h.apart.ap k hm
    have hlt := h.apart.lt
    refine hk k (.inl ?_) hl hp.1 hp.2.1 hp.2.2 (fun Q j sl e => ?_)
    · simp only [List.mem_cons, List.not_mem_nil, or_false] at hm
      rcases hm with rfl | rfl | rfl <;> omega
    · have := h.j2 _ _ _ e
      simp only [List.mem_cons, List.not_mem_nil, or_false] at hm
      omega
  have hsz := h.two.isR.size
  have hj : ∀ Q j sl, o2' = some (Q, j, sl) → ∃ j0 s0, o2 = some (Q, j0, s0) := fun Q j sl e => by
    subst e
    cases o2 with
    | none => cases hsame
    | some p => obtain ⟨Q0, j0, s0⟩ := p; simp at hsame; subst hsame; exact ⟨j0, s0, rfl⟩
  refine ⟨⟨h.apart, ?_, h2, h.j1, fun Q j sl e => ?_, fun J j Q j' sl e1 e2 => ?_⟩, ⟨hos, htp, hout, hs, fun k hb => ?_⟩⟩
  · cases o1 with
    | none =>
      have h1 : IsDisk w B bl bm d1 := h.one
      exact h1.kept (hq _ (by simp) h1.ltB) (hq _ (by simp) h1.ltL) (hq _ (by simp) h1.ltM)
    | some p =>
      obtain ⟨J, j⟩ := p
      have h1 : JD w J B bl bm j d1 := h.one
      have hJ := h.j1 _ _ rfl
      exact h1.kept (hk J (.inr hJ.1) h1.lt.1 hJ.2.2.1 hJ.2.2.2.1 hJ.2.2.2.2 (fun Q j' sl e => h.ne J j Q j' sl rfl e)) (hq _ (by simp) h1.lt.2.1) (hq _ (by simp) h1.lt.2.2.1) (hq _ (by simp) h1.lt.2.2.2)
  · obtain ⟨j0, s0, e0⟩ := hj Q j sl e
    exact h.j2 Q j0 s0 e0
  · obtain ⟨j0, s0, e0⟩ := hj Q j' sl e2
    exact h.ne J j Q j0 s0 e1 e0
  · have hu := h.apart.up
    refine hk k (.inl (by omega)) (by omega) (by omega) (by omega) (by omega) (fun Q j sl e => ?_)
    have := h.j2 _ _ _ e
    omega
/-- More blocks are kept. -/
def Rg.plus (g : Rg) (P : Nat → Prop) : Rg := ⟨g.R, g.bl, g.bw, g.D, g.cl, g.cw, fun k => g.P k ∨ P k⟩
/-- The program's side wrote, and made blocks that are to be kept from now on. -/
theorem IsR.apartPlus {P : Nat → Prop} (h : IsR w g t d) {S : List Nat} (ho : OnlyS S w u) (hS : ∀ k ∈ S, (k < g.D ∨ g.P k) ∧ k ≠ g.R ∧ k ≠ g.bl ∧ k ≠ g.bw) (hP : ∀ k, P k → w.heap.size ≤ k ∧ k < u.heap.size) : IsR u (g.plus P) t d := by
  obtain ⟨lim, most, tv, tn, tcs, hd, ht⟩ := h
  have hu : IsR u g t d := IsR.apart ⟨lim, most, tv, tn, tcs, hd, ht⟩ ho hS
  have hk : ∀ k, k < w.heap.size → k ∉ S → u.heap[k]? = w.heap[k]? := fun k h1 h2 => ho.block k h1 h2
  have hR : g.R ∉ S := fun hm => (hS _ hm).2.1 rfl
  have hL : g.bl ∉ S := fun hm => (hS _ hm).2.2.1 rfl
  have hW : g.bw ∉ S := fun hm => (hS _ hm).2.2.2 rfl
  refine ⟨lim, most, tv, tn, tcs, ⟨hd.ok, by show u.heap[g.R]? = _; rw [hk _ (lt_of_block hd.row) hR]; exact hd.row, fun hn => ?_, fun hn => ?_, ?_, hd.ltR, hd.apart, Nat.le_trans hd.size ho.size, hd.room, hd.most, fun k e hp => ?_, fun b hb => ?_⟩, ht⟩
  · obtain ⟨cs, e1, e2⟩ := hd.lasts hn
    exact ⟨cs, by show u.heap[g.bl]? = _; rw [hk _ (lt_of_block e1) hL]; exact e1, e2⟩
  · obtain ⟨cs, e1, e2⟩ := hd.waits hn
    exact ⟨cs, by show u.heap[g.bw]? = _; rw [hk _ (lt_of_block e1) hW]; exact e1, e2⟩
  · have ho2 := hd.tears
    refine ⟨ho2.1, ?_⟩
    rcases ho2.2 with h0 | ⟨gg, cap, cur, e1, e2, e3, e4⟩
    · exact .inl h0
    · have hne : gg ∉ S := by
        intro hm
        rcases (hS gg hm).1 with h5 | h5
        · omega
        · exact hd.prot gg (by rw [e1]; rfl) h5
      exact .inr ⟨gg, cap, cur, e1, e2, by rw [hk _ (lt_of_block e3) hne]; exact e3, e4⟩
  · rcases hp with hp | hp
    · exact hd.prot k e hp
    · have := (hd.tears.lt k e).2
      have := hP k hp
      omega
  · rcases hb with hb | hb
    · exact Nat.lt_of_lt_of_le (hd.ltP b hb) ho.size
    · exact (hP b hb).2
theorem Apart.more (h : Apart base B bl bm g) (k : Nat) : Apart base B bl bm (g.more k) := ⟨h.lt, h.ap, h.up⟩
theorem Apart.plus (h : Apart base B bl bm g) (P : Nat → Prop) : Apart base B bl bm (g.plus P) := ⟨h.lt, h.ap, h.up⟩
/-- Behind the program's Open: a new journal, its old one forgotten; the document's forgotten too (it is opened next). -/
theorem Syn.opened1 (h : Syn base w B bl bm g t d1 d2 o1 o2) (ho : OnlyS [B, bl, bm] w u) (h1 : JD u J B bl bm j d') (hJ : w.heap.size ≤ J) (h4 : 4 ≤ d2.lasts.length) {P : Nat → Prop} (hP : ∀ k, P k → w.heap.size ≤ k ∧ k < u.heap.size) (hPJ : P J) : Syn base u B bl bm (g.plus P) t d' d2 (some (J, j)) none ∧ Below base w u := by
  have h0 : Syn base w B bl bm g t d1 d2 none none := ⟨h.apart, h.one.isD, h.two.isR, (fun _ _ e => nomatch e), (fun _ _ _ e => nomatch e), (fun _ _ _ _ _ e => nomatch e)⟩
  have hw := h0.writes
  have hJu := h1.lt.1
  have hsz := h.two.isR.size
  obtain ⟨lim, most, tv, tn, tcs, hd, _⟩ := h.two.isR
  have hu := h.apart.up
  have hlr := hd.ltR
  have hrl := lt_of_block hd.row
  have hb : Below base w u := ho.toBelow (fun k hk => by
    simp only [List.mem_cons, List.not_mem_nil, or_false] at hk
    rcases hk with rfl | rfl | rfl <;> omega) (by omega)
  refine ⟨⟨h.apart.plus P, h1, h.two.isR.apartPlus ho hw hP, (fun J' j' e => ?_), (fun _ _ _ e => nomatch e), (fun _ _ _ _ _ _ e => nomatch e)⟩, hb⟩
  cases e
  obtain ⟨a1, a2, _⟩ := hd.apart (by omega)
  exact ⟨.inr hPJ, by omega, by show J ≠ g.R; omega, by show J ≠ g.bl; omega, by show J ≠ g.bw; omega⟩
/-- Behind the program's Open that came to nothing. -/
theorem Syn.closed1 (h : Syn base w B bl bm g t d1 d2 o1 o2) (ho : OnlyS [B, bl, bm] w u) (h1 : IsDisk u B bl bm d') : Syn base u B bl bm g t d' d2 none none ∧ Below base w u := by
  have h0 : Syn base w B bl bm g t d1 d2 none none := ⟨h.apart, h.one.isD, h.two.isR, (fun _ _ e => nomatch e), (fun _ _ _ e => nomatch e), (fun _ _ _ _ _ e => nomatch e)⟩
  exact h0.first ho (o1' := none) h1 rfl
/-- Behind the document's Open. -/
theorem Syn.opened2 (h : Syn base w B bl bm g t d1 d2 o1 none) (hf : Fr g w u) (h2 : QD u w.heap.size (g.more w.heap.size) t' j sl d') : Syn base u B bl bm (g.more w.heap.size) t' d1 d' o1 (some (w.heap.size, j, sl)) ∧ Below base w u := by
  obtain ⟨hs, hb⟩ := h.second (o2' := none) hf (t' := t') (d' := d') (h2.dk.less rfl (fun _ hp => .inl hp)) rfl
  have hB := h.one.isD
  have hsz := h.size
  refine ⟨⟨hs.apart.more _, hs.one, h2, (fun J j e => ?_), (fun Q j sl e => ?_), (fun J j Q j' sl e1 e2 => ?_)⟩, hb⟩
  · have := hs.j1 J j e
    exact ⟨.inl this.1, this.2⟩
  · cases e
    have h3 := hB.ltB
    have h4 := hB.ltL
    have h5 := hB.ltM
    exact ⟨hsz, by omega, by omega, by omega⟩
  · cases e2
    subst e1
    have h3 : JD w J B bl bm j d1 := h.one
    have := h3.lt.1
    omega
end
end Go.Proofs.YtnioagojiipjlaaGreat

/-
  Open of both, side by side.
-/
namespace Go.Proofs.YtnioagojiipjlaaGreat
open Go.RowKit Go.Maps
/-- What Open comes to: its error, its disk, its records, its journal. -/
def Mt.opE (d : Mt.Dk) : Int := if d.lasts.length < 4 then 2 else if d.off = true then 10 else (Mt.openJ d).2.2
def Mt.opD (d : Mt.Dk) : Mt.Dk := if d.lasts.length < 4 then d else if d.off = true then d else (Mt.openJ d).1
def Mt.opL (d : Mt.Dk) : List (List UInt8) := if Mt.opE d = 0 then (Mt.findJ d).2 else []
def Mt.opJ (d : Mt.Dk) : Option Mt.Jn := if Mt.opE d = 0 then some (Mt.openJ d).2.1 else none
theorem Mt.op_small {d : Mt.Dk} (h : d.lasts.length < 4) : Mt.opE d = 2 ∧ Mt.opD d = d ∧ Mt.opL d = [] ∧ Mt.opJ d = none := by
  have h1 : Mt.opE d = 2 := by unfold Mt.opE; rw [if_pos h]
  exact ⟨h1, by unfold Mt.opD; rw [if_pos h], by unfold Mt.opL; rw [h1]; rfl, by unfold Mt.opJ; rw [h1]; rfl⟩
theorem Mt.op_off {d : Mt.Dk} (h : ¬ d.lasts.length < 4) (ho : d.off = true) : Mt.opE d = 10 ∧ Mt.opD d = d ∧ Mt.opL d = [] ∧ Mt.opJ d = none := by
  have h1 : Mt.opE d = 10 := by unfold Mt.opE; rw [if_neg h, if_pos ho]
  exact ⟨h1, by unfold Mt.opD; rw [if_neg h, if_pos ho], by unfold Mt.opL; rw [h1]; rfl, by unfold Mt.opJ; rw [h1]; rfl⟩
theorem Mt.op_bad {d : Mt.Dk} (h : ¬ d.lasts.length < 4) (ho : ¬ d.off = true) (he : (Mt.openJ d).2.2 ≠ 0) : Mt.opE d = (Mt.openJ d).2.2 ∧ Mt.opD d = (Mt.openJ d).1 ∧ Mt.opL d = [] ∧ Mt.opJ d = none := by
  have h1 : Mt.opE d = (Mt.openJ d).2.2 := by unfold Mt.opE; rw [if_neg h, if_neg ho]
  exact ⟨h1, by unfold Mt.opD; rw [if_neg h, if_neg ho], by unfold Mt.opL; rw [h1, if_neg he], by unfold Mt.opJ; rw [h1, if_neg he]⟩
theorem Mt.op_good {d : Mt.Dk} (h : ¬ d.lasts.length < 4) (ho : ¬ d.off = true) (he : (Mt.openJ d).2.2 = 0) : Mt.opE d = 0 ∧ Mt.opD d = (Mt.openJ d).1 ∧ Mt.opL d = (Mt.findJ d).2 ∧ Mt.opJ d = some (Mt.openJ d).2.1 := by
  have h1 : Mt.opE d = 0 := by unfold Mt.opE; rw [if_neg h, if_neg ho, he]
  exact ⟨h1, by unfold Mt.opD; rw [if_neg h, if_neg ho], by unfold Mt.opL; rw [h1, if_pos rfl], by unfold Mt.opJ; rw [h1, if_pos rfl]⟩
/-- Texts in a row that the document's disk keeps. -/
def TsK (w : World) (g : Rg) (v : Value) (ls : List (List UInt8)) : Prop := IsTs w v ls ∧ (ls ≠ [] → ∀ a n c, v = .slice (some a) n c → (a.block < g.D ∨ g.P a.block) ∧ a.block ≠ g.R ∧ a.block ≠ g.bl ∧ a.block ≠ g.bw)
theorem TsK.nil (w : World) (g : Rg) : TsK w g (.slice none 0 0) [] := ⟨⟨none, 0, rfl, by simp, .inl rfl⟩, fun h => absurd rfl h⟩
theorem TsK.fr {w u : World} {g : Rg} {v : Value} {ls : List (List UInt8)} (h : TsK w g v ls) (hf : Fr g w u) : IsTs u v ls := by
  obtain ⟨⟨a, c, rfl, hc, h1⟩, h2⟩ := h
  refine ⟨a, c, rfl, hc, ?_⟩
  by_cases hn : ls = []
  · exact .inl hn
  rcases h1 with h1 | ⟨b, off, e, h3, h4⟩
  · exact absurd h1 hn
  right
  subst e
  obtain ⟨k1, k2, k3, k4⟩ := h2 hn _ _ _ rfl
  exact ⟨b, off, rfl, Nat.lt_of_lt_of_le h3 hf.size, fun j hj => (cell_block (hf.block b k1 h3 k2 k3 k4) _).trans (h4 j hj)⟩
section
variable {base : Nat} {w u : World} {B bl bm : Nat} {g : Rg} {t : Nat} {d d1 : Mt.Dk} {o1 : Option (Nat × Mt.Jn)} {o2 : Option (Nat × Mt.Jn × Int)}
theorem Syn.closed1' (h : Syn base w B bl bm g t d1 d o1 o2) {d' : Mt.Dk} (ho : OnlyS [B, bl, bm] w u) (h1 : IsDisk u B bl bm d') : Syn base u B bl bm (g.plus fun _ => False) t d' d none none ∧ Below base w u := by
  obtain ⟨hs, hb⟩ := h.closed1 ho h1
  refine ⟨⟨hs.apart.plus _, hs.one, hs.two.isR.less rfl (fun k hk => hk.elim id False.elim), (fun _ _ e => nomatch e), (fun _ _ _ e => nomatch e), (fun _ _ _ _ _ e => nomatch e)⟩, hb⟩
/-- The program's Open. -/
theorem open1f (h : Syn base w B bl bm g t d d o1 o2) : Calls Tryz.prog 11 #[.pointer (some ⟨B, 0, none⟩)] w fun e w' => ∃ (x : Value) (J : Nat) (P : Nat → Prop), e = .returned (.tuple #[.pointer ((Mt.opJ d).map fun _ => ⟨J, 0, none⟩), x, .int .i64 (Mt.opE d)]) ∧
    Hid (Syn base w' B bl bm (g.plus P) t (Mt.opD d) d ((Mt.opJ d).map fun j => (J, j)) none ∧ Below base w w' ∧ TsK w' (g.plus P) x (Mt.opL d) ∧ OnlyS [B, bl, bm] w w') := by
  have hD := h.one.isD
  by_cases h4 : d.lasts.length < 4
  · obtain ⟨e1, e2, e3, e4⟩ := Mt.op_small h4
    rw [e1, e2, e3, e4]
    refine (open_small hD h4).mono ?_
    rintro e w' ⟨rfl, rfl⟩
    obtain ⟨hs, hb⟩ := h.closed1' (OnlyS.refl _ _) hD
    exact ⟨_, 0, fun _ => False, rfl, Lib.hid ⟨hs, hb, TsK.nil _ _, OnlyS.refl _ _⟩⟩
  · by_cases ho : d.off = true
    · obtain ⟨e1, e2, e3, e4⟩ := Mt.op_off h4 ho
      rw [e1, e2, e3, e4]
      refine (open_off hD (by omega) ho).mono ?_
      rintro e w' ⟨rfl, hb0⟩
      have ho1 : OnlyS [B, bl, bm] w w' := Below.onlyS hb0 (Nat.le_refl _)
      obtain ⟨hs, hb⟩ := h.closed1' ho1 (hD.below hb0)
      exact ⟨_, 0, fun _ => False, rfl, Lib.hid ⟨hs, hb, TsK.nil _ _, ho1⟩⟩
    · refine (open_new hD (by omega) (by simpa using ho)).mono ?_
      rintro e w' ⟨hgood, hbad, hon⟩
      by_cases he : (Mt.openJ d).2.2 = 0
      · obtain ⟨e1, e2, e3, e4⟩ := Mt.op_good h4 ho he
        rw [e1, e2, e3, e4]
        obtain ⟨J, x, j', hJ, rfl, hts, hjd, hl⟩ := hgood he
        have hl' : j' = (Mt.openJ d).2.1 := hl
        subst hl'
        obtain ⟨a, c, rfl, hc, hrest⟩ := hts.1
        have hJu := hjd.lt.1
        have hlt := h.apart.lt
        have hsz := h.two.isR.size
        refine ⟨_, J, fun k => k = J ∨ (k < w'.heap.size ∧ w.heap.size ≤ k ∧ ∃ a', a = some a' ∧ a'.block = k), rfl, Lib.hid ?_⟩
        obtain ⟨hs, hb⟩ := h.opened1 hon hjd hJ (by omega) (P := fun k => k = J ∨ (k < w'.heap.size ∧ w.heap.size ≤ k ∧ ∃ a', a = some a' ∧ a'.block = k)) (fun k hk => by rcases hk with rfl | ⟨h1, h2, _⟩ <;> omega) (.inl rfl)
        refine ⟨hs, hb, ⟨hts.1, fun hne a' n c' e => ?_⟩, hon⟩
        cases e
        have h1 := hts.2 _ _ _ rfl
        have h2 : a'.block < w'.heap.size := by
          rcases hrest with h3 | ⟨b, off, e, h3, _⟩
          · exact absurd h3 hne
          · cases e; exact h3
        obtain ⟨lim, most, tv, tn, tcs, hd, _⟩ := h.two.isR
        obtain ⟨k1, k2, _⟩ := hd.apart (by omega)
        have k3 := hd.ltR
        have k4 := hd.size
        exact ⟨.inr (Or.inr (Or.inr ⟨h2, h1, a', rfl, rfl⟩)), by show a'.block ≠ g.R; omega, by show a'.block ≠ g.bl; omega, by show a'.block ≠ g.bw; omega⟩
      · obtain ⟨e1, e2, e3, e4⟩ := Mt.op_bad h4 ho he
        rw [e1, e2, e3, e4]
        obtain ⟨rfl, hd'⟩ := hbad he
        obtain ⟨hs, hb⟩ := h.closed1' hon hd'
        exact ⟨_, 0, fun _ => False, rfl, Lib.hid ⟨hs, hb, TsK.nil _ _, hon⟩⟩
theorem open1 (h : Syn base w B bl bm g t d d o1 o2) : Calls Tryz.prog 11 #[.pointer (some ⟨B, 0, none⟩)] w fun e w' => ∃ (x : Value) (J : Nat) (P : Nat → Prop), e = .returned (.tuple #[.pointer ((Mt.opJ d).map fun _ => ⟨J, 0, none⟩), x, .int .i64 (Mt.opE d)]) ∧
    Hid (Syn base w' B bl bm (g.plus P) t (Mt.opD d) d ((Mt.opJ d).map fun j => (J, j)) none ∧ Below base w w' ∧ TsK w' (g.plus P) x (Mt.opL d)) :=
  (open1f h).mono fun _ _ ⟨x, J, P, h1, h2⟩ => ⟨x, J, P, h1, Lib.hid ⟨h2.out.1, h2.out.2.1, h2.out.2.2.1⟩⟩
/-- The document's Open. -/
theorem open2f (h : Syn base w B bl bm g t d1 d o1 none) (ht : t + 20010 < 1000000) (hsm : d.lasts.length ≤ 1000) : Calls Tryz.prog 12 #[.pointer (some ⟨g.R, 0, none⟩)] w fun e w' => ∃ (x : Value) (Q : Nat) (P : Nat → Prop) (sl : Int), e = .returned (.tuple #[.pointer ((Mt.opJ d).map fun _ => ⟨Q, 0, none⟩), x, .int .i64 (Mt.opE d)]) ∧
    Hid (Syn base w' B bl bm (g.plus P) (t + 20010) d1 (Mt.opD d) o1 ((Mt.opJ d).map fun j => (Q, j, sl)) ∧ Below base w w' ∧ IsTs w' x (Mt.opL d) ∧ (∀ v ls, TsK w g v ls → IsTs w' v ls) ∧ Fr g w w') := by
  have hR : IsR w g t d := h.two
  have hstay : ∀ {u : World} {t' : Nat}, Syn base u B bl bm g t' d1 d o1 none → t' ≤ t + 20010 → Syn base u B bl bm (g.plus fun _ => False) (t + 20010) d1 d o1 none := fun hs hle =>
    ⟨hs.apart.plus _, hs.one, (IsR.less (g' := g.plus fun _ => False) hs.two.isR rfl (fun k (hk : g.P k ∨ False) => hk.elim id False.elim)).mono hle, (fun J j e => ⟨.inl (hs.j1 J j e).1, (hs.j1 J j e).2⟩), (fun _ _ _ e => nomatch e), (fun _ _ _ _ _ _ e => nomatch e)⟩
  by_cases h4 : d.lasts.length < 4
  · obtain ⟨e1, e2, e3, e4⟩ := Mt.op_small h4
    rw [e1, e2, e3, e4]
    refine (ropen_small hR h4).mono ?_
    rintro e w' ⟨rfl, rfl⟩
    exact ⟨_, 0, fun _ => False, 0, rfl, Lib.hid ⟨hstay h (by omega), Below.refl _ _, ⟨none, 0, rfl, by simp, .inl rfl⟩, (fun v ls hv => hv.1), Fr.refl _ _⟩⟩
  · by_cases ho : d.off = true
    · obtain ⟨e1, e2, e3, e4⟩ := Mt.op_off h4 ho
      rw [e1, e2, e3, e4]
      refine (ropen_off hR (by omega) ho).mono ?_
      rintro e w' ⟨rfl, rfl⟩
      exact ⟨_, 0, fun _ => False, 0, rfl, Lib.hid ⟨hstay h (by omega), Below.refl _ _, ⟨none, 0, rfl, by simp, .inl rfl⟩, (fun v ls hv => hv.1), Fr.refl _ _⟩⟩
    · refine (ropen_on hR (by omega) (by simpa using ho) hsm ht).mono ?_
      rintro e w' ⟨hgood, hbad, hfr⟩
      by_cases he : (Mt.openJ d).2.2 = 0
      · obtain ⟨e1, e2, e3, e4⟩ := Mt.op_good h4 ho he
        rw [e1, e2, e3, e4]
        obtain ⟨x, sl', rfl, hts, hq⟩ := hgood he
        obtain ⟨hs, hb⟩ := h.opened2 hfr hq
        exact ⟨_, w.heap.size, fun k => k = w.heap.size, sl', rfl, Lib.hid ⟨hs, hb, hts, (fun v ls hv => hv.fr hfr), hfr⟩⟩
      · obtain ⟨e1, e2, e3, e4⟩ := Mt.op_bad h4 ho he
        rw [e1, e2, e3, e4]
        obtain ⟨rfl, hd'⟩ := hbad he
        obtain ⟨hs, hb⟩ := h.second (o2' := none) hfr (t' := t + 20010) (d' := (Mt.openJ d).1) hd' rfl
        refine ⟨_, 0, fun _ => False, 0, rfl, Lib.hid ⟨⟨hs.apart.plus _, hs.one, hs.two.isR.less rfl (fun k hk => hk.elim id False.elim), (fun J j e => ⟨.inl (hs.j1 J j e).1, (hs.j1 J j e).2⟩), (fun _ _ _ e => nomatch e), (fun _ _ _ _ _ _ e => nomatch e)⟩, hb, ⟨none, 0, rfl, by simp, .inl rfl⟩, (fun v ls hv => hv.fr hfr), hfr⟩⟩
theorem open2 (h : Syn base w B bl bm g t d1 d o1 none) (ht : t + 20010 < 1000000) (hsm : d.lasts.length ≤ 1000) : Calls Tryz.prog 12 #[.pointer (some ⟨g.R, 0, none⟩)] w fun e w' => ∃ (x : Value) (Q : Nat) (P : Nat → Prop) (sl : Int), e = .returned (.tuple #[.pointer ((Mt.opJ d).map fun _ => ⟨Q, 0, none⟩), x, .int .i64 (Mt.opE d)]) ∧
    Hid (Syn base w' B bl bm (g.plus P) (t + 20010) d1 (Mt.opD d) o1 ((Mt.opJ d).map fun j => (Q, j, sl)) ∧ Below base w w' ∧ IsTs w' x (Mt.opL d) ∧ ∀ v ls, TsK w g v ls → IsTs w' v ls) :=
  (open2f h ht hsm).mono fun _ _ ⟨x, Q, P, sl, h1, h2⟩ => ⟨x, Q, P, sl, h1, Lib.hid ⟨h2.out.1, h2.out.2.1, h2.out.2.2.1, h2.out.2.2.2.1⟩⟩
end
end Go.Proofs.YtnioagojiipjlaaGreat

/-
  The statement's alike: both journals hold the same.
-/
namespace Go.Proofs.YtnioagojiipjlaaGreat
open Go.RowKit Go.Maps
section
variable {base : Nat} {w u : World} {B bl bm J Q : Nat} {g : Rg} {t : Nat} {d : Mt.Dk} {j : Mt.Jn} {sl : Int}
set_option maxRecDepth 100000 in
theorem alike_none (w : World) : Calls Tryz.prog 16 #[.pointer none, .pointer none] w fun e w' => e = .returned (.bool true) ∧ w = w' := by
  have H1 := Lib.hid (fun u => len_nil u)
  have H2 := Lib.hid (fun u => gen_nil u)
  have H3 := Lib.hid (fun u => left_nil u)
  go_enter Tryz.func16, Tryz.ntmps16
  go_wp2_with fail
  with_reducible refine (H1.out _).mono ?_
  rintro e w1 ⟨rfl, rfl⟩
  go_wp2_with fail
  with_reducible refine (H2.out _).mono ?_
  rintro e w1 ⟨rfl, rfl⟩
  go_wp2_with fail
  with_reducible refine (H3.out _).mono ?_
  rintro e w1 ⟨rfl, rfl⟩
  go_wp2_with fail
  go_ret
  exact ⟨rfl, rfl⟩
set_option maxRecDepth 100000 in
set_option maxHeartbeats 1000000 in
theorem alike_both (h1 : JD w J B bl bm j d) (h2 : QD w Q g t j sl d) : Calls Tryz.prog 16 #[.pointer (some ⟨J, 0, none⟩), .pointer (some ⟨Q, 0, none⟩)] w fun e w' => e = .returned (.bool true) ∧ Below w.heap.size w w' := by
  have H1 : Hid (∀ u, Below w.heap.size w u → Calls Tryz.prog 45 #[.pointer (some ⟨J, 0, none⟩)] u fun e w' => e = .returned (.int .i64 (j.count : Int)) ∧ u = w') := Lib.hid (fun u hu => len_any (h1.below hu).jn)
  have H2 : Hid (∀ u, Below w.heap.size w u → Calls Tryz.prog 33 #[.pointer (some ⟨J, 0, none⟩)] u fun e w' => e = .returned (.int .i64 (j.gen : Int)) ∧ u = w') := Lib.hid (fun u hu => gen_any (h1.below hu).jn h1.gen)
  have H3 : Hid (∀ u, Below w.heap.size w u → Calls Tryz.prog 34 #[.pointer (some ⟨J, 0, none⟩)] u fun e w' => e = .returned (.int .i64 (j.left d : Int)) ∧ Below u.heap.size u w') := Lib.hid (fun u hu => left_any (h1.below hu))
  have H4 : Hid (∀ u, Below w.heap.size w u → Calls Tryz.prog 46 #[.pointer (some ⟨Q, 0, none⟩)] u fun e w' => e = .returned (.int .i64 (j.left d : Int)) ∧ Below u.heap.size u w') := Lib.hid (fun u hu => rleft_any (h2.below hu))
  have HC : Hid (∀ u, Below w.heap.size w u → u.cell? ⟨Q, 5, none⟩ = some (.int .i64 (j.count : Int)) ∧ u.cell? ⟨Q, 1, none⟩ = some (.int .i64 (j.gen : Int))) := Lib.hid (fun u hu => by
    obtain ⟨-, k1, -, -, -, k5, -⟩ := (h2.below hu).jn.cells
    exact ⟨k5, k1⟩)
  have HK := Lib.hid ((Below.refl w.heap.size w).drew)
  obtain ⟨c5, c1⟩ := HC.out w (Below.refl _ _)
  generalize j.left d = L at *
  generalize j.count = C at *
  generalize j.gen = G at *
  clear h1 h2
  go_enter Tryz.func16, Tryz.ntmps16
  go_upto_region 3 with fail
  go_region_held3 (fun w' => w'.cell? ⟨Q, 5, none⟩ = some (.int .i64 (C : Int)) ∧ w'.cell? ⟨Q, 1, none⟩ = some (.int .i64 (G : Int)))
    (first
      | go_keep
      | exact qq)
    (first
      | (go_at_call 45; (with_reducible refine (H1.out _ HK.out).mono ?_); rintro e w9 ⟨rfl, rfl⟩)
      | (go_at_call 33; (with_reducible refine (H2.out _ HK.out).mono ?_); rintro e w9 ⟨rfl, rfl⟩)
      | (go_at_call 34; (with_reducible refine (H3.out _ HK.out).mono ?_); rintro e w9 ⟨rfl, hb⟩; have HK := Lib.hid (HK.out.trans (hb.mono HK.out.size)); have qq := HC.out _ HK.out; clear hb)
      | (go_at_call 46; (with_reducible refine (H4.out _ HK.out).mono ?_); rintro e w9 ⟨rfl, hb⟩; have HK := Lib.hid (HK.out.trans (hb.mono HK.out.size)); have qq := HC.out _ HK.out; clear hb))
  all_goals
    go_wp2_with fail
    go_ret
    exact ⟨rfl, HK.out⟩
end
end Go.Proofs.YtnioagojiipjlaaGreat
