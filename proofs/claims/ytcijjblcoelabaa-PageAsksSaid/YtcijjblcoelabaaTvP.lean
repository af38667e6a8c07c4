/-
  What tlv.parse, parseAll, Parse and Whole come to.
-/
import Derived.Test.YtcijjblcoelabaaTvS
set_option linter.unusedVariables false
set_option linter.unusedSimpArgs false
namespace Go.Proofs.Ytcijjblcoelabaa
open Go.RowKit

/-- What parse answers of bytes, so many depths being left. -/
def ParseP (w : World) (d : Nat) (l : List UInt8) (x : Ending) (w' : World) : Prop :=
  Below w.heap.size w w' ∧ match Mt.parseL d l with
    | .error e => x = .returned (.tuple #[zeroN, .string ByteArray.empty, .int .i64 e])
    | .ok (n, r) => ∃ v, x = .returned (.tuple #[v, .string (Mt.str r), .int .i64 0]) ∧ IsNd w' (fun b => w.heap.size ≤ b) d v n
/-- What parseAll answers. -/
def AllP (w : World) (d : Nat) (l : List UInt8) (x : Ending) (w' : World) : Prop :=
  Below w.heap.size w w' ∧ match Mt.allL (Mt.parseL d) l.length l with
    | .error e => x = .returned (.tuple #[.slice none 0 0, .int .i64 e])
    | .ok ns => ∃ a c, x = .returned (.tuple #[.slice a ns.length c, .int .i64 0]) ∧ IsKids (IsNd w' (fun b => w.heap.size ≤ b) d) w' (fun b => w.heap.size ≤ b) a ns

theorem Mt.lenL_err : ∀ {l : List UInt8} {e : Nat}, Mt.lenL l = .error e → e ≠ 0
  | [], e, h => by simp [Mt.lenL] at h; omega
  | c :: r, e, h => by
    simp only [Mt.lenL] at h
    split at h
    · cases h
    · split at h
      · cases h; decide
      · split at h
        · cases h; decide
        · split at h
          · cases h; decide
          · cases h
theorem Mt.splitL_err : ∀ {l : List UInt8} {e : Nat}, Mt.splitL l = .error e → e ≠ 0
  | [], e, h => by simp [Mt.splitL] at h; omega
  | c :: r, e, h => by
    simp only [Mt.splitL] at h
    split at h
    · cases h; decide
    · split at h
      · rename_i e2 h2; cases h; exact Mt.lenL_err h2
      · split at h
        · cases h; decide
        · cases h
theorem Mt.allL_err {p : List UInt8 → Except Nat (Mt.Nd × List UInt8)} (hp : ∀ l e, p l = .error e → e ≠ 0) : ∀ (k : Nat) (l : List UInt8) (e : Nat), Mt.allL p k l = .error e → e ≠ 0
  | 0, _, e, h => by simp [Mt.allL] at h
  | k + 1, [], e, h => by simp [Mt.allL] at h
  | k + 1, c :: r, e, h => by
    simp only [Mt.allL] at h
    split at h
    · rename_i e2 h2; cases h; exact hp _ _ h2
    · split at h
      · rename_i e2 h2; cases h; exact Mt.allL_err hp k _ _ h2
      · cases h
theorem Mt.parseL_err : ∀ (d : Nat) (l : List UInt8) (e : Nat), Mt.parseL d l = .error e → e ≠ 0
  | 0, _, e, h => by simp [Mt.parseL] at h; omega
  | d + 1, l, e, h => by
    simp only [Mt.parseL] at h
    split at h
    · rename_i e2 h2; cases h; exact Mt.splitL_err h2
    · split at h
      · cases h
      · split at h
        · rename_i e2 h2; cases h; exact Mt.allL_err (Mt.parseL_err d) _ _ _ h2
        · cases h

set_option maxRecDepth 100000 in
theorem parseAll_of (d dep : Nat) (hd : dep + d = 65) (ih : ∀ (s : ByteArray) (w : World), s.size ≤ 140737488351232 → Calls Try.prog 82 #[.string s, .int .i64 dep] w (ParseP w d s.data.toList))
    (s : ByteArray) (w : World) (hs : s.size ≤ 1048576) : Calls Try.prog 93 #[.string s, .int .i64 dep] w (AllP w d s.data.toList) := by
  have HIH := Lib.hid ih
  clear ih hd
  go_enter Try.func93, Try.ntmps93
  go_wp2
  go_loopw [0, 6] (fun sv v wr => ∃ (l : List UInt8), sv = .string (Mt.str l) ∧ Hid (∃ done g xs, Mt.allL (Mt.parseL d) s.data.toList.length s.data.toList = Mt.onto done (Mt.allL (Mt.parseL d) l.length l) ∧ done.length + l.length ≤ s.size ∧
      IsRw 76 3 wr g v done.length xs ∧ AreNds wr (fun b => w.heap.size ≤ b ∧ b ≠ g) d xs done ∧ w.heap.size ≤ g ∧ Below w.heap.size w wr))
    (fun sv _ _ => match sv with | .string t => t.size | _ => 0)
  case atStart => exact ⟨s.data.toList, rfl, [], w.heap.size, [], (Mt.onto_nil _).symm, by simp, IsRw.nil _ _ _ _, AreNds.nil _ _ _, Nat.le_refl _, Below.refl _ _⟩
  case round =>
    obtain ⟨l, rfl, HR⟩ := hrel
    obtain ⟨done, g, xs, hall, hlen, hrw, hnd, hg, hb⟩ := HR.out
    obtain ⟨va, vc, rfl⟩ := hrw.form
    have HA := Lib.hid hall
    have HL := Lib.hid hlen
    have HRW := Lib.hid hrw
    have HND := Lib.hid hnd
    have HB := Lib.hid hb
    have hlsz : (Mt.str l).size = l.length := Mt.str_size l
    clear hall hlen hrw hnd hb HR
    by_cases hl0 : l = []
    · subst hl0
      have hemp : (Mt.str []).toList.isEmpty = true := by rw [ByteArray.toList_eq]; rfl
      go_wp2_with fail
      have hall : Mt.allL (Mt.parseL d) s.data.toList.length s.data.toList = .ok done := by rw [HA.out]; simp [Mt.allL, Mt.onto]
      obtain ⟨a, c, e, hk⟩ := kids_of HRW.out (ok := fun b => w.heap.size ≤ b) hg (HND.out.keep (fun b hb _ => hb.1) (fun _ _ _ => rfl)) rfl
      cases e
      refine bodyPost_ret (v := .tuple #[.slice va done.length vc, .int .i64 0]) (by simp [results, Try.results93, go_sem]) rfl ⟨HB.out, ?_⟩
      rw [hall]
      exact ⟨_, _, rfl, hk⟩
    · have hlp : 0 < l.length := List.length_pos_iff.2 hl0
      have hne1 : (Mt.str l).toList.isEmpty = false := nonempty_str (by rw [hlsz]; exact hlp)
      have HC := Lib.hid (HIH.out (Mt.str l) wr (by have := HL.out; omega))
      rw [Mt.str_data] at HC
      cases hp : Mt.parseL d l with
      | error e =>
        have hene := Mt.parseL_err d l e hp
        have he1 : ((e : Int) != 0) = true := by simp; omega
        have he2 : ((e : Int) == 0) = false := by simp; omega
        have hall : Mt.allL (Mt.parseL d) s.data.toList.length s.data.toList = .error e := by rw [HA.out, Mt.allL_bad hl0 hp]; rfl
        have HALL := Lib.hid hall
        have HP := Lib.hid hp
        clear hall hp hene
        go_wp2_with fail
        refine (HC.out).mono ?_
        rintro x w1 ⟨hb1, hx⟩
        rw [HP.out] at hx
        subst hx
        have HB1 := Lib.hid (HB.out.trans (hb1.mono HB.out.size))
        clear hb1
        unfold zeroN
        go_wp2_with fail
        refine bodyPost_ret (v := .tuple #[.slice none 0 0, .int .i64 e]) (by simp [results, Try.results93, go_sem]) rfl ⟨HB1.out.trans ((((Below.refl _ _).alloc (Nat.le_refl _) _)).mono HB1.out.size), ?_⟩
        rw [HALL.out]
      | ok q =>
        obtain ⟨n, r⟩ := q
        have hrl := Mt.parseL_ok hp
        have hall : Mt.allL (Mt.parseL d) s.data.toList.length s.data.toList = Mt.onto (done ++ [n]) (Mt.allL (Mt.parseL d) r.length r) := by rw [HA.out, Mt.onto_good (Mt.parseL_shrinks d) done hl0 hp]
        have HALL := Lib.hid hall
        have HP := Lib.hid hp
        clear hall hp
        go_wp2_with fail
        refine (HC.out).mono ?_
        rintro x w1 ⟨hb1, hx⟩
        rw [HP.out] at hx
        obtain ⟨v, rfl, hnd1⟩ := hx
        obtain ⟨na, nc, rfl⟩ := hnd1.form
        -- the world with the box of n
        have hbx := ((Below.refl w1.heap.size w1).alloc (Nat.le_refl _) (.cells #[.int .i64 n.tag, .string (Mt.str n.data), .slice na n.kids.length nc] 76))
        obtain ⟨w2, hw2⟩ : ∃ w2, w1.alloc (.cells #[.int .i64 n.tag, .string (Mt.str n.data), .slice na n.kids.length nc] 76) = w2 := ⟨_, rfl⟩
        have hb12 : Below wr.heap.size wr w2 := by rw [← hw2]; exact hb1.trans (hbx.mono hb1.size)
        have hsz := HB.out.size
        have hsz2 := hb12.size
        have hnorm : ∃ g2, IsRw 76 3 w2 g2 (.slice va done.length vc) done.length xs ∧ AreNds w2 (fun b => w.heap.size ≤ b ∧ b ≠ g2) d xs done ∧ w.heap.size ≤ g2 ∧ IsNd w2 (fun b => w.heap.size ≤ b ∧ b ≠ g2) d (.agg #[.int .i64 n.tag, .string (Mt.str n.data), .slice na n.kids.length nc]) n := by
          have hnd2 := (hnd1.below (by rw [← hw2]; exact hbx) : IsNd w2 (fun b => wr.heap.size ≤ b) d _ n)
          rcases HRW.out.norm (w2.heap.size + w.heap.size + 1) with hg1 | hrw1
          · exact ⟨g, HRW.out.below hb12, HND.out.keep (fun _ h _ => h) (fun b _ hlt => hb12.block b hlt), hg, hnd2.mono (Nat.le_refl _) (fun b hb _ => ⟨by omega, by omega⟩)⟩
          · exact ⟨_, hrw1.below hb12, HND.out.keep (fun b h hlt => ⟨h.1, by omega⟩) (fun b _ hlt => hb12.block b hlt), by omega, hnd2.mono (Nat.le_refl _) (fun b hb hlt => ⟨by omega, by omega⟩)⟩
        obtain ⟨g2, hrw2, hnds2, hg2, hn2⟩ := hnorm
        obtain ⟨v3, w3, g3, hrun, hrw3, hnds3, hg3, ho3, _⟩ := nds_append hrw2 hnds2 hg2 (by omega) hn2 (by have := HL.out; omega)
        have hb3 : Below w.heap.size w w3 := by
          have h2 : Below w.heap.size w w2 := HB.out.trans (hb12.mono hsz)
          exact h2.trans (ho3.toBelow (by simpa using hg2) (by omega))
        have HX : Hid (∃ done' g' xs', Mt.allL (Mt.parseL d) s.data.toList.length s.data.toList = Mt.onto done' (Mt.allL (Mt.parseL d) r.length r) ∧ done'.length + r.length ≤ s.size ∧
            IsRw 76 3 w3 g' v3 done'.length xs' ∧ AreNds w3 (fun b => w.heap.size ≤ b ∧ b ≠ g') d xs' done' ∧ w.heap.size ≤ g' ∧ Below w.heap.size w w3) :=
          ⟨done ++ [n], g3, _, HALL.out, by have := HL.out; simp; omega, hrw3, hnds3, hg3, hb3⟩
        have hsz1 : w2.heap.size = w1.heap.size + 1 := by rw [← hw2]; simp
        rw [hsz1] at hrun
        have hbox : ∀ (u : World), w1.alloc (.cells #[.int .i64 n.tag, .string (Mt.str n.data), .slice na n.kids.length nc] 76) = w2 := fun _ => hw2
        have hrs : (Mt.str r).size = r.length := Mt.str_size r
        subst hw2
        clear hsz1 hbox hb1 hnd1 hbx hb12 hsz hsz2 hrw2 hnds2 hg2 hn2 hrw3 hnds3 hg3 ho3 hb3
        go_wp2_with (at_builtin; refine wpList_append_run rfl _ _ 74 74 rfl _ _ rfl rfl hrun ?_)
        go_roundw
        case rel => exact ⟨r, rfl, HX⟩
        case measure => simp [hrs, hlsz]; omega

theorem leaf_any (t : Int) (s : ByteArray) (w : World) : Calls Try.prog 49 #[.int .i64 t, .string s] w fun e w' => e = .returned (.agg #[.int .i64 t, .string s, .slice none 0 0]) ∧ Below w.heap.size w w' := by
  go_enter Try.func49, Try.ntmps49
  go_wp2
  refine bodyPost_ret (v := .agg #[.int .i64 t, .string s, .slice none 0 0]) (by simp [results, Try.results49, go_sem]) rfl ⟨rfl, ?_⟩
  exact (Below.refl _ _).alloc (Nat.le_refl _) _
theorem Mt.allL_length {p : List UInt8 → Except Nat (Mt.Nd × List UInt8)} : ∀ (k : Nat) (l : List UInt8) (ns : List Mt.Nd), Mt.allL p k l = .ok ns → ns.length ≤ k
  | 0, _, ns, h => by simp [Mt.allL] at h; subst h; simp
  | k + 1, [], ns, h => by simp [Mt.allL] at h; subst h; simp
  | k + 1, c :: r, ns, h => by
    simp only [Mt.allL] at h
    split at h
    · cases h
    · split at h
      · cases h
      · rename_i l hl
        cases h
        have := Mt.allL_length k _ _ hl
        simp; omega
/-- A box of three cells. -/
structure Box (w : World) (B : Nat) (x0 x1 x2 : Value) : Prop where
  c0 : w.cell? ⟨B, 0, none⟩ = some x0
  c1 : w.cell? ⟨B, 1, none⟩ = some x1
  c2 : w.cell? ⟨B, 2, none⟩ = some x2
  f0 : w.frozen? ⟨B, 0, none⟩ = false
  f1 : w.frozen? ⟨B, 1, none⟩ = false
  f2 : w.frozen? ⟨B, 2, none⟩ = false
theorem box_of {w : World} {B : Nat} {x0 x1 x2 : Value} {t : TypeId} (h : w.heap[B]? = some (.cells #[x0, x1, x2] t (0, 0))) : Box w B x0 x1 x2 :=
  ⟨cell_of_row w B 0 _ _ _ h, cell_of_row w B 1 _ _ _ h, cell_of_row w B 2 _ _ _ h, frozen_of_row w B 0 _ _ h, frozen_of_row w B 1 _ _ h, frozen_of_row w B 2 _ _ h⟩
theorem box_below {w w1 : World} {B : Nat} {D : Nat} (h : Below D w w1) (hB : D ≤ B) (x0 x1 x2 : Value) : Below D w (((w1.setCell ⟨B, 0, none⟩ x0).setCell ⟨B, 1, none⟩ x1).setCell ⟨B, 2, none⟩ x2) :=
  ((h.setCell hB _).setCell hB _).setCell hB _

set_option maxRecDepth 100000 in
theorem parse_any : ∀ (d dep : Nat), dep + d = 65 → ∀ (s : ByteArray) (w : World), s.size ≤ 140737488351232 → Calls Try.prog 82 #[.string s, .int .i64 dep] w (ParseP w d s.data.toList)
  | 0, dep, hd, s, w, hs => by
    have hdd : decide ((64 : Int) < dep) = true := by simp; omega
    have hd64 : (64 : Int) < dep := by omega
    clear hd
    go_enter Try.func82, Try.ntmps82
    go_wp2_with fail
    refine bodyPost_ret (v := .tuple #[zeroN, .string ByteArray.empty, .int .i64 6]) (by simp [results, Try.results82, go_sem, zeroN]; rfl) rfl ⟨(Below.refl _ _).alloc (Nat.le_refl _) _, ?_⟩
    rfl
  | d + 1, dep, hd, s, w, hs => by
    have hdd : decide ((64 : Int) < dep) = false := by simp; omega
    have hd64 : (dep : Int) ≤ 64 := by omega
    have hdep : dep + 1 + d = 65 := by omega
    have HALL := Lib.hid (parseAll_of d (dep + 1) hdep (parse_any d (dep + 1) hdep))
    have hlimb := split_any s (w.alloc (.cells #[.int .i64 0, .string ByteArray.empty, .slice none 0 0] 76)) hs
    have hb0 := (Below.refl w.heap.size w).alloc (Nat.le_refl _) (.cells #[.int .i64 0, .string ByteArray.empty, .slice none 0 0] 76)
    have HB0 := Lib.hid hb0
    have hblk := heap_alloc_new w (.cells #[.int .i64 0, .string ByteArray.empty, .slice none 0 0] 76)
    have HBLK := Lib.hid hblk
    have hw0 : (w.alloc (.cells #[.int .i64 0, .string ByteArray.empty, .slice none 0 0] 76)).heap.size = w.heap.size + 1 := by simp
    have HW0 := Lib.hid hw0
    have HS := Lib.hid hlimb
    clear hb0 hblk hw0 hlimb hd hdep
    cases hsp : Mt.splitL s.data.toList with
    | error e =>
      have hene := Mt.splitL_err hsp
      have he1 : ((e : Int) != 0) = true := by simp; omega
      have he2 : ((e : Int) == 0) = false := by simp; omega
      have hpl : Mt.parseL (d + 1) s.data.toList = .error e := by simp only [Mt.parseL, hsp]
      rw [hsp] at HS
      simp only [splitV] at HS
      have HPL := Lib.hid hpl
      clear hpl hsp hene
      go_enter Try.func82, Try.ntmps82
      go_wp2_with fail
      refine (HS.out).mono ?_
      rintro x w1 ⟨rfl, hb1⟩
      obtain ⟨c0, c1, c2, f0, f1, f2⟩ := box_of ((hb1.block w.heap.size (by rw [HW0.out]; omega)).trans HBLK.out)
      have HB1 : Hid (Below w.heap.size w w1) := HB0.out.trans (hb1.mono HB0.out.size)
      clear hb1
      go_wp2_with fail
      refine bodyPost_ret (v := .tuple #[zeroN, .string ByteArray.empty, .int .i64 e]) (by simp [results, Try.results82, go_sem, zeroN, c0, c1, c2]; rfl) rfl ⟨box_below HB1.out (Nat.le_refl _) _ _ _, ?_⟩
      rw [HPL.out]
    | ok p =>
      obtain ⟨t, data, rest⟩ := p
      obtain ⟨hdl, ht, h31, hdm⟩ := Mt.splitL_ok hsp
      rw [hsp] at HS
      simp only [splitV] at HS
      have HCN := Lib.hid (fun W => constructed_any t ht W)
      have hds : (Mt.str data).size = data.length := Mt.str_size data
      have hrsz : (Mt.str rest).size = rest.length := Mt.str_size rest
      have hdepw : IntKind.i64.wrap ((dep : Int) + 1) = (dep : Int) + 1 := IntWalk.i64_in _ (by omega)
      by_cases hc : t / 32 % 2 = 1
      · have hcd : decide (t / 32 % 2 = 1) = true := by simp [hc]
        rw [hcd] at HCN
        have hpl : Mt.parseL (d + 1) s.data.toList = match Mt.allL (Mt.parseL d) data.length data with | .error e => .error e | .ok ks => .ok (.mk (t : Int) [] ks, rest) := by
          simp only [Mt.parseL, hsp]; rw [if_neg (by omega)]
          cases Mt.allL (Mt.parseL d) data.length data <;> rfl
        have HPL := Lib.hid hpl
        clear hpl hsp hcd hc
        go_enter Try.func82, Try.ntmps82
        go_wp2_with fail
        refine (HS.out).mono ?_
        rintro x w1 ⟨rfl, hb1⟩
        have HV1 := Lib.hid ((hb1.block w.heap.size (by rw [HW0.out]; omega)).trans HBLK.out)
        have HB1 : Hid (Below w.heap.size w w1) := HB0.out.trans (hb1.mono HB0.out.size)
        clear hb1
        have hlt1 : w.heap.size < w1.heap.size := lt_of_block HV1.out
        have HA := HALL.out (Mt.str data) w1 (by omega)
        rw [Mt.str_data] at HA
        have HA2 : Hid (Calls Try.prog 93 #[.string (Mt.str data), .int .i64 ((dep : Int) + 1)] w1 (AllP w1 d data)) := HA
        clear HA
        go_wp2_with (go_at_call 91; refine (HCN.out _).mono ?_; rintro e w' ⟨rfl, rfl⟩)
        refine (HA2.out).mono ?_
        rintro x w2 ⟨hb2, hx⟩
        obtain ⟨c0, c1, c2, f0, f1, f2⟩ := box_of ((hb2.block w.heap.size hlt1).trans HV1.out)
        have HB2 : Hid (Below w.heap.size w w2) := HB1.out.trans (hb2.mono HB1.out.size)
        clear hb2
        cases hal : Mt.allL (Mt.parseL d) data.length data with
        | error e =>
          have hene := Mt.allL_err (Mt.parseL_err d) _ _ _ hal
          have he1 : ((e : Int) != 0) = true := by simp; omega
          have he2 : ((e : Int) == 0) = false := by simp; omega
          rw [hal] at hx
          have HPL2 : Hid (Mt.parseL (d + 1) s.data.toList = .error e) := by have h := HPL.out; rw [hal] at h; exact h
          subst hx
          clear hal hene HPL
          go_wp2_with fail
          refine bodyPost_ret (v := .tuple #[zeroN, .string ByteArray.empty, .int .i64 e]) (by simp [results, Try.results82, go_sem, zeroN, c0, c1, c2]; rfl) rfl ⟨box_below HB2.out (Nat.le_refl _) _ _ _, ?_⟩
          rw [HPL2.out]
        | ok ks =>
          rw [hal] at hx
          have hkl := Mt.allL_length _ _ _ hal
          have HPL2 : Hid (Mt.parseL (d + 1) s.data.toList = .ok (.mk (t : Int) [] ks, rest)) := by have h := HPL.out; rw [hal] at h; exact h
          obtain ⟨a, c, rfl, hk⟩ := hx
          have HK := Lib.hid hk
          clear hal HPL hk
          go_wp2_with fail
          refine bodyPost_ret (v := .tuple #[.agg #[.int .i64 t, .string ByteArray.empty, .slice a ks.length c], .string (Mt.str rest), .int .i64 0]) (by simp [results, Try.results82, go_sem, c0, c1, c2]; rfl) rfl ⟨box_below HB2.out (Nat.le_refl _) _ _ _, ?_⟩
          rw [HPL2.out]
          refine ⟨_, rfl, a, c, rfl, by simp [Mt.Nd.data], by simp [Mt.Nd.kids]; omega, ?_⟩
          have hne : ∀ b, w1.heap.size ≤ b → b ≠ w.heap.size := fun b hb => by omega
          refine HK.out.imp (fun b hb _ => by omega) (fun v n hr => IsNd.keep (fun b hb _ => by omega) (fun b hb _ => ?_) (Nat.le_refl _) hr) (fun b hb _ => ?_)
          all_goals
            rw [heap_setCell_other _ _ _ _ (hne b hb), heap_setCell_other _ _ _ _ (hne b hb), heap_setCell_other _ _ _ _ (hne b hb)]
      · have hcd : decide (t / 32 % 2 = 1) = false := by simp [hc]
        rw [hcd] at HCN
        have hpl : Mt.parseL (d + 1) s.data.toList = .ok (.mk (t : Int) data [], rest) := by
          simp only [Mt.parseL, hsp]; rw [if_pos (by omega)]
        have HPL := Lib.hid hpl
        have HCL := Lib.hid (fun W => clone_any (Mt.str data) W (by omega))
        clear hpl hsp hcd hc
        go_enter Try.func82, Try.ntmps82
        go_wp2_with fail
        refine (HS.out).mono ?_
        rintro x w1 ⟨rfl, hb1⟩
        have HV1 := Lib.hid ((hb1.block w.heap.size (by rw [HW0.out]; omega)).trans HBLK.out)
        have HB1 : Hid (Below w.heap.size w w1) := HB0.out.trans (hb1.mono HB0.out.size)
        have hlt1 : w.heap.size < w1.heap.size := lt_of_block HV1.out
        clear hb1
        go_wp2_with (go_at_call 91; refine (HCN.out _).mono ?_; rintro e w' ⟨rfl, rfl⟩)
        refine (HCL.out _).mono ?_
        rintro x w2 ⟨rfl, hb2⟩
        have HV2 := Lib.hid ((hb2.block w.heap.size hlt1).trans HV1.out)
        have HB2 : Hid (Below w.heap.size w w2) := HB1.out.trans (hb2.mono HB1.out.size)
        have hlt2 : w.heap.size < w2.heap.size := lt_of_block HV2.out
        clear hb2
        go_wp2_with fail
        refine (leaf_any _ _ _).mono ?_
        rintro x w3 ⟨rfl, hb3⟩
        obtain ⟨c0, c1, c2, f0, f1, f2⟩ := box_of ((hb3.block w.heap.size hlt2).trans HV2.out)
        have HB3 : Hid (Below w.heap.size w w3) := HB2.out.trans (hb3.mono HB2.out.size)
        clear hb3
        go_wp2_with fail
        refine bodyPost_ret (v := .tuple #[.agg #[.int .i64 t, .string (Mt.str data), .slice none 0 0], .string (Mt.str rest), .int .i64 0]) (by simp [results, Try.results82, go_sem, c0, c1, c2]) rfl ⟨box_below HB3.out (Nat.le_refl _) _ _ _, ?_⟩
        rw [HPL.out]
        exact ⟨_, rfl, none, 0, rfl, by simp only [Mt.Nd.data]; omega, by simp [Mt.Nd.kids], .inl rfl⟩

/-- Parse: the same, with all depths left. -/
theorem Parse_any (s : ByteArray) (w : World) (hs : s.size ≤ 140737488351232) : Calls Try.prog 65 #[.string s] w (ParseP w 64 s.data.toList) := by
  have hb0 := (Below.refl w.heap.size w).alloc (Nat.le_refl _) (.cells #[.int .i64 0, .string ByteArray.empty, .slice none 0 0] 76)
  have HB0 := Lib.hid hb0
  have HBLK := Lib.hid (heap_alloc_new w (.cells #[.int .i64 0, .string ByteArray.empty, .slice none 0 0] 76))
  have HW0 : Hid ((w.alloc (.cells #[.int .i64 0, .string ByteArray.empty, .slice none 0 0] 76)).heap.size = w.heap.size + 1) := Lib.hid (by simp)
  have HP : Hid (Calls Try.prog 82 #[.string s, .int .i64 1] (w.alloc (.cells #[.int .i64 0, .string ByteArray.empty, .slice none 0 0] 76)) (ParseP (w.alloc (.cells #[.int .i64 0, .string ByteArray.empty, .slice none 0 0] 76)) 64 s.data.toList)) := parse_any 64 1 rfl s _ hs
  clear hb0
  go_enter Try.func65, Try.ntmps65
  go_wp2_with fail
  refine (HP.out).mono ?_
  rintro x w1 ⟨hb1, hx⟩
  obtain ⟨c0, c1, c2, f0, f1, f2⟩ := box_of ((hb1.block w.heap.size (by rw [HW0.out]; omega)).trans HBLK.out)
  have HB1 : Hid (Below w.heap.size w w1) := HB0.out.trans (hb1.mono HB0.out.size)
  clear hb1
  cases hp : Mt.parseL 64 s.data.toList with
  | error e =>
    rw [hp] at hx
    have HPP := Lib.hid hp
    subst hx
    clear hp
    unfold zeroN
    go_wp2_with fail
    refine bodyPost_ret (v := .tuple #[zeroN, .string ByteArray.empty, .int .i64 e]) (by simp [results, Try.results65, go_sem, zeroN, c0, c1, c2]) rfl ⟨box_below HB1.out (Nat.le_refl _) _ _ _, ?_⟩
    rw [HPP.out]
  | ok q =>
    obtain ⟨n, r⟩ := q
    rw [hp] at hx
    have HPP := Lib.hid hp
    obtain ⟨v, rfl, hn⟩ := hx
    obtain ⟨na, nc, rfl⟩ := hn.form
    have HN := Lib.hid hn
    clear hp hn
    go_wp2_with fail
    refine bodyPost_ret (v := .tuple #[.agg #[.int .i64 n.tag, .string (Mt.str n.data), .slice na n.kids.length nc], .string (Mt.str r), .int .i64 0]) (by simp [results, Try.results65, go_sem, c0, c1, c2]) rfl ⟨box_below HB1.out (Nat.le_refl _) _ _ _, ?_⟩
    rw [HPP.out]
    refine ⟨_, rfl, ?_⟩
    have hne : ∀ b, (w.alloc (.cells #[.int .i64 0, .string ByteArray.empty, .slice none 0 0] 76)).heap.size ≤ b → b ≠ w.heap.size := fun b hb => by rw [HW0.out] at hb; omega
    refine IsNd.keep (fun b hb _ => by rw [HW0.out] at hb; omega) (fun b hb _ => ?_) (Nat.le_refl _) HN.out
    rw [heap_setCell_other _ _ _ _ (hne b hb), heap_setCell_other _ _ _ _ (hne b hb), heap_setCell_other _ _ _ _ (hne b hb)]

/-- The element that bytes are. -/
def Mt.wholeL (l : List UInt8) : Except Nat Mt.Nd := match Mt.parseL 64 l with
  | .error e => .error e
  | .ok (n, r) => if r = [] then .ok n else .error 4
/-- What Whole answers. -/
def WholeP (w : World) (l : List UInt8) (x : Ending) (w' : World) : Prop :=
  Below w.heap.size w w' ∧ match Mt.wholeL l with
    | .error e => x = .returned (.tuple #[zeroN, .int .i64 e])
    | .ok n => ∃ v, x = .returned (.tuple #[v, .int .i64 0]) ∧ IsNd w' (fun b => w.heap.size ≤ b) 64 v n

theorem Whole_any (s : ByteArray) (w : World) (hs : s.size ≤ 140737488351232) : Calls Try.prog 41 #[.string s] w (WholeP w s.data.toList) := by
  have hb0 := (Below.refl w.heap.size w).alloc (Nat.le_refl _) (.cells #[.int .i64 0, .string ByteArray.empty, .slice none 0 0] 76)
  have HB0 := Lib.hid hb0
  have HBLK := Lib.hid (heap_alloc_new w (.cells #[.int .i64 0, .string ByteArray.empty, .slice none 0 0] 76))
  have HW0 : Hid ((w.alloc (.cells #[.int .i64 0, .string ByteArray.empty, .slice none 0 0] 76)).heap.size = w.heap.size + 1) := Lib.hid (by simp)
  have HP := Lib.hid (Parse_any s (w.alloc (.cells #[.int .i64 0, .string ByteArray.empty, .slice none 0 0] 76)) hs)
  clear hb0
  go_enter Try.func41, Try.ntmps41
  go_wp2_with fail
  refine (HP.out).mono ?_
  rintro x w1 ⟨hb1, hx⟩
  have hlt1 : w.heap.size < w1.heap.size := by have := hb1.size; rw [HW0.out] at this; omega
  obtain ⟨c0, c1, c2, f0, f1, f2⟩ := box_of ((hb1.block w.heap.size (by rw [HW0.out]; omega)).trans HBLK.out)
  have HB1 : Hid (Below w.heap.size w w1) := HB0.out.trans (hb1.mono HB0.out.size)
  clear hb1
  cases hp : Mt.parseL 64 s.data.toList with
  | error e =>
    rw [hp] at hx
    have hene := Mt.parseL_err _ _ _ hp
    have he1 : ((e : Int) != 0) = true := by simp; omega
    have he2 : ((e : Int) == 0) = false := by simp; omega
    have HPP : Hid (Mt.wholeL s.data.toList = .error e) := by show Mt.wholeL _ = _; unfold Mt.wholeL; rw [hp]
    subst hx
    clear hp hene
    unfold zeroN
    go_wp2_with fail
    refine bodyPost_ret (v := .tuple #[zeroN, .int .i64 e]) (by simp [results, Try.results41, go_sem, zeroN, c0, c1, c2, hlt1]; rfl) rfl ⟨(box_below HB1.out (Nat.le_refl _) _ _ _).alloc (by simp; omega) _, ?_⟩
    rw [HPP.out]
  | ok q =>
    obtain ⟨n, r⟩ := q
    rw [hp] at hx
    obtain ⟨v, rfl, hn⟩ := hx
    obtain ⟨na, nc, rfl⟩ := hn.form
    have HN := Lib.hid hn
    by_cases hr : r = []
    · subst hr
      have HPP : Hid (Mt.wholeL s.data.toList = .ok n) := by show Mt.wholeL _ = _; unfold Mt.wholeL; rw [hp]; rfl
      have hemp : (Mt.str []).toList.isEmpty = true := by rw [ByteArray.toList_eq]; rfl
      clear hp hn
      go_wp2_with fail
      refine bodyPost_ret (v := .tuple #[.agg #[.int .i64 n.tag, .string (Mt.str n.data), .slice na n.kids.length nc], .int .i64 0]) (by simp [results, Try.results41, go_sem, c0, c1, c2, hlt1]) rfl ⟨(box_below HB1.out (Nat.le_refl _) _ _ _).alloc (by simp; omega) _, ?_⟩
      rw [HPP.out]
      refine ⟨_, rfl, ?_⟩
      have hne : ∀ b, (w.alloc (.cells #[.int .i64 0, .string ByteArray.empty, .slice none 0 0] 76)).heap.size ≤ b → b ≠ w.heap.size := fun b hb => by rw [HW0.out] at hb; omega
      refine IsNd.keep (fun b hb _ => by rw [HW0.out] at hb; omega) (fun b hb hlt => ?_) (Nat.le_refl _) HN.out
      have hal := (Below.refl w1.heap.size (((w1.setCell ⟨w.heap.size, 0, none⟩ (.int .i64 n.tag)).setCell ⟨w.heap.size, 1, none⟩ (.string (Mt.str n.data))).setCell ⟨w.heap.size, 2, none⟩ (.slice na n.kids.length nc))).alloc (by simp) (.cells #[.int .i64 n.tag, .string (Mt.str n.data), .slice na n.kids.length nc] 76)
      rw [hal.block b hlt, heap_setCell_other _ _ _ _ (hne b hb), heap_setCell_other _ _ _ _ (hne b hb), heap_setCell_other _ _ _ _ (hne b hb)]
    · have hlp : 0 < r.length := List.length_pos_iff.2 hr
      have hne1 : (Mt.str r).toList.isEmpty = false := nonempty_str (by rw [Mt.str_size]; exact hlp)
      have HPP : Hid (Mt.wholeL s.data.toList = .error 4) := by show Mt.wholeL _ = _; unfold Mt.wholeL; rw [hp]; simp [hr]
      clear hp hn
      go_wp2_with fail
      refine bodyPost_ret (v := .tuple #[zeroN, .int .i64 4]) (by simp [results, Try.results41, go_sem, zeroN, c0, c1, c2, hlt1]; rfl) rfl ⟨(box_below HB1.out (Nat.le_refl _) _ _ _).alloc (by simp; omega) _, ?_⟩
      rw [HPP.out]
      rfl
end Go.Proofs.Ytcijjblcoelabaa
