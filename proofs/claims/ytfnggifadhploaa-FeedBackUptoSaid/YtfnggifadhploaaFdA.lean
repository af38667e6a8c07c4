/-
  What all and awake of the statements on feed come to.
-/
import Derived.Test.YtfnggifadhploaaFdN
import Derived.Test.YtfnggifadhploaaRw
namespace Go.Proofs.Ytfnggifadhploaa
open Go.RowKit

section
variable {w : World} {B g : Nat} {l : List UInt8} {e : Nat}
theorem bnext_err (h : IsBuf w B g l 0) (hl : l.length ≤ 140737488351232) (he : (Mt.cutL l).2 ≠ 0) : Calls Try.prog 33 #[.pointer (some ⟨B, 0, none⟩)] w fun x w' =>
    x = .returned (.tuple #[.string ByteArray.empty, .bool false, .int .i64 (Mt.cutL l).2]) ∧ IsBuf w' B g [] (Mt.cutL l).2 ∧ OnlyS [B, g] w w' :=
  (bnext_any h hl).mono fun x w' ⟨hn, ho⟩ => by
    rcases hn with ⟨_, h2, h3⟩ | ⟨h1, _⟩ | ⟨h1, _⟩
    · exact ⟨h2, h3, ho⟩
    · exact absurd h1 he
    · exact absurd h1 he
theorem bnext_wait (h : IsBuf w B g l 0) (hl : l.length ≤ 140737488351232) (he : (Mt.cutL l).2 = 0) (hn0 : (Mt.cutL l).1 = 0) : Calls Try.prog 33 #[.pointer (some ⟨B, 0, none⟩)] w fun x w' =>
    x = .returned (.tuple #[.string ByteArray.empty, .bool false, .int .i64 0]) ∧ IsBuf w' B g l 0 ∧ OnlyS [B, g] w w' :=
  (bnext_any h hl).mono fun x w' ⟨hn, ho⟩ => by
    rcases hn with ⟨h1, _⟩ | ⟨_, _, h2, h3⟩ | ⟨_, h1, _⟩
    · exact absurd he h1
    · exact ⟨h2, h3, ho⟩
    · exact absurd hn0 h1
theorem bnext_msg (h : IsBuf w B g l 0) (hl : l.length ≤ 140737488351232) (he : (Mt.cutL l).2 = 0) (hn0 : (Mt.cutL l).1 ≠ 0) : Calls Try.prog 33 #[.pointer (some ⟨B, 0, none⟩)] w fun x w' =>
    x = .returned (.tuple #[.string (Mt.str (l.take (Mt.cutL l).1)), .bool true, .int .i64 0]) ∧ IsBuf w' B g (l.drop (Mt.cutL l).1) 0 ∧ OnlyS [B, g] w w' :=
  (bnext_any h hl).mono fun x w' ⟨hn, ho⟩ => by
    rcases hn with ⟨h1, _⟩ | ⟨_, h1, _⟩ | ⟨_, _, h2, h3⟩
    · exact absurd he h1
    · exact absurd h1 hn0
    · exact ⟨h2, h3, ho⟩

/-- Texts as cells. -/
def Mt.svs (ms : List (List UInt8)) : List Value := ms.map fun m => .string (Mt.str m)
theorem Mt.svs_length (ms : List (List UInt8)) : (Mt.svs ms).length = ms.length := by simp [Mt.svs]
theorem Mt.svs_one (ms : List (List UInt8)) : ∀ u ∈ Mt.svs ms, u.oneCell' = true := by
  intro u hu
  simp only [Mt.svs, List.mem_map] at hu
  obtain ⟨x, _, rfl⟩ := hu
  rfl
theorem Try.infoStr : (Try.prog.info? 9).map (fun i => (i.zero, i.size, i.bytes)) = some (some (.string ByteArray.empty), 1, 16) := by kernel_rfl

/-- How many bytes wait in the buffer in a block. -/
def lenAt (B : Nat) (w : World) : Nat := match w.cell? ⟨B, 0, none⟩ with | some (.slice _ n _) => n | _ => 0
theorem lenAt_of (h : IsBuf w B g l e) : lenAt B w = l.length := by
  obtain ⟨v, hv, hb, _⟩ := h
  have hc : w.cell? ⟨B, 0, none⟩ = some v := cell_of_row w B 0 _ _ _ hv
  unfold lenAt
  rw [hc]
  rcases hb with ⟨rfl, rfl⟩ | ⟨off, cap, cur, rfl, _⟩ <;> rfl

/-- What all answers, and leaves. -/
def Alls (B g H : Nat) (w : World) (r : List (List UInt8) × List UInt8 × Nat) (x : Ending) (w' : World) : Prop :=
  ∃ v gv, x = .returned (.tuple #[v, .int .i64 r.2.2]) ∧ IsRw 9 1 w' gv v r.1.length (Mt.svs r.1) ∧ H ≤ gv ∧ gv ≠ B ∧ IsBuf w' B g r.2.1 r.2.2 ∧ OnlyS [B, g] w w'

theorem all8_bad (h : IsBuf w B g l e) (he : e ≠ 0) : Calls Try.prog 31 #[.pointer (some ⟨B, 0, none⟩)] w (Alls B g w.heap.size w ([], l, e)) := by
  have HN := Lib.hid (bnext_bad h he)
  have hlt := h.lt
  clear h
  go_enter Try.func31, Try.ntmps31
  go_wp2
  refine wp_loop_rounds 1 ?_
  rw [rounds_succ]
  go_wp2_with fail
  refine (HN.out).mono ?_
  rintro x w' ⟨rfl, hb, ho⟩
  have HB := Lib.hid hb
  have HO := Lib.hid ho
  clear hb ho
  go_wp2_with fail
  refine bodyPost_ret (v := .tuple #[.slice none 0 0, .int .i64 e]) (by simp [results, Try.results31, go_sem]) rfl ?_
  exact ⟨_, w.heap.size, rfl, IsRw.nil _ _ _ _, Nat.le_refl _, by omega, HB.out, HO.out⟩
theorem all8_wait (h : IsBuf w B g l 0) (hl : l.length ≤ 140737488351232) (he : (Mt.cutL l).2 = 0) (hn0 : (Mt.cutL l).1 = 0) : Calls Try.prog 31 #[.pointer (some ⟨B, 0, none⟩)] w (Alls B g w.heap.size w ([], l, 0)) := by
  have HN := Lib.hid (bnext_wait h hl he hn0)
  have hlt := h.lt
  clear h he hn0
  go_enter Try.func31, Try.ntmps31
  go_wp2
  refine wp_loop_rounds 1 ?_
  rw [rounds_succ]
  go_wp2_with fail
  refine (HN.out).mono ?_
  rintro x w' ⟨rfl, hb, ho⟩
  have HB := Lib.hid hb
  have HO := Lib.hid ho
  clear hb ho
  go_wp2_with fail
  refine bodyPost_ret (v := .tuple #[.slice none 0 0, .int .i64 0]) (by simp [results, Try.results31, go_sem]) rfl ?_
  exact ⟨_, w.heap.size, rfl, IsRw.nil _ _ _ _, Nat.le_refl _, by omega, HB.out, HO.out⟩

set_option maxRecDepth 100000 in
theorem all8_any (h : IsBuf w B g l 0) (hl : l.length ≤ 1000000) (hg : g < w.heap.size) : Calls Try.prog 31 #[.pointer (some ⟨B, 0, none⟩)] w (Alls B g w.heap.size w (Mt.drn l)) := by
  have hBlt := h.lt
  obtain ⟨i0, hi, hz0, hz1, hz2⟩ := info_parts Try.infoStr
  have HI := Lib.hid hi
  have HZ0 := Lib.hid hz0
  have HZ1 := Lib.hid hz1
  have HZ2 := Lib.hid hz2
  have H0 := Lib.hid h
  clear h hi hz0 hz1 hz2
  go_enter Try.func31, Try.ntmps31
  go_wp2
  go_loopw [4] (fun v wr => Hid (∃ done r gv, Mt.drn l = (done ++ (Mt.drn r).1, (Mt.drn r).2) ∧ (Mt.svs done).length + r.length ≤ l.length ∧ IsBuf wr B g r 0 ∧ IsRw 9 1 wr gv v done.length (Mt.svs done) ∧ w.heap.size ≤ gv ∧ OnlyS [B, g] w wr)) (fun _ wr => lenAt B wr)
  case atStart => exact ⟨[], l, w.heap.size, rfl, by simp [Mt.svs], H0.out, IsRw.nil _ _ _ _, Nat.le_refl _, OnlyS.refl _ _⟩
  case round =>
    obtain ⟨done, r, gv, hd, hlen, hbuf, hrw, hgv, ho⟩ := hrel.out
    rw [Mt.svs_length] at hlen
    have hrl : r.length ≤ 140737488351232 := by omega
    obtain ⟨va, vc, rfl⟩ := hrw.form
    have hgvB : gv ≠ B := by omega
    have HD := Lib.hid hd
    have HL := Lib.hid hlen
    have HBF := Lib.hid hbuf
    have HRW := Lib.hid hrw
    have HO := Lib.hid ho
    clear hd hlen hrw ho hrel
    by_cases he : (Mt.cutL r).2 = 0
    · by_cases hn : (Mt.cutL r).1 = 0
      · have HN := Lib.hid (bnext_wait hbuf hrl he hn)
        have HE := Lib.hid (Mt.drn_none he hn)
        clear he hn hbuf
        go_wp2_with fail
        refine (HN.out).mono ?_
        rintro x w1 ⟨rfl, hb, ho1⟩
        have HB1 := Lib.hid hb
        have HO1 := Lib.hid ho1
        clear hb ho1
        go_wp2_with fail
        refine bodyPost_ret (v := .tuple #[.slice va done.length vc, .int .i64 0]) (by simp [results, Try.results31, go_sem]) rfl ?_
        refine ⟨.slice va done.length vc, gv, ?_, ?_, hgv, hgvB, ?_, HO.out.trans HO1.out⟩
        · rw [HD.out, HE.out]; rfl
        · rw [HD.out, HE.out]; simp only [List.append_nil]
          exact HRW.out.other HO1.out (by simp; omega)
        · rw [HD.out, HE.out]; exact HB1.out
      · have HN := Lib.hid (bnext_msg hbuf hrl he hn)
        have HE := Lib.hid (Mt.drn_more he hn)
        have hle := Mt.cutL_le r
        obtain ⟨n, hnn⟩ : ∃ n, (Mt.cutL r).1 = n := ⟨_, rfl⟩
        rw [hnn] at HN HE hle hn
        have hl0 := lenAt_of hbuf
        clear he hnn hbuf
        go_wp2_with fail
        refine (HN.out).mono ?_
        rintro x w1 ⟨rfl, hb, ho1⟩
        have HB1 := Lib.hid hb
        have HO1 := Lib.hid (HO.out.trans ho1)
        have hrow := (HRW.out.other ho1 (by simp; omega)).below ((Below.refl _ w1).alloc (Nat.le_refl _) (.cells #[.string (Mt.str (r.take n))] 9))
        obtain ⟨v', w2, gv2, hrun, hrw2, hg2, ho2⟩ := rw_append (T := 60) (tx := 60) Try.underlying60 HI.out HZ0.out HZ1.out HZ2.out rfl hrow (Mt.svs_one _) (.slice (some ⟨w1.heap.size, 0, none⟩) 1 1) 1 [.string (Mt.str (r.take n))]
          (Src.ofSlice _ Try.underlying60 ⟨w1.heap.size, 0, none⟩ 1 1 _ (by rw [HZ1.out]; rfl) (fun j u hu => by
            rw [add_off]
            match j, hu with
            | 0, hu => simp at hu; subst hu; exact cell_of_row _ _ 0 _ _ _ (heap_alloc_new _ _)) (by simp [Value.oneCell'])) (by have := HL.out; omega) (by have := HL.out; omega)
        have hw1 : w.heap.size ≤ w1.heap.size := HO1.out.size
        have hgv2 : w.heap.size ≤ gv2 := by
          rcases hg2 with rfl | rfl
          · exact hgv
          · simp; omega
        have hdl : (Mt.svs done ++ [.string (Mt.str (r.take n))]) = Mt.svs (done ++ [r.take n]) := by simp [Mt.svs]
        rw [hdl] at hrw2
        have hbuf2 : IsBuf w2 B g (r.drop n) 0 := (HB1.out.below ((Below.refl _ w1).alloc (Nat.le_refl _) (.cells #[.string (Mt.str (r.take n))] 9))).other ho2 (by simp; omega) (by simp; omega)
        have ho3 : OnlyS [B, g] w w2 := by
          refine ⟨ho2.os.trans (HO1.out.alloc _).os, ho2.tape.trans (HO1.out.alloc _).tape, ho2.output.trans (HO1.out.alloc _).output, Nat.le_trans (HO1.out.alloc _).size ho2.size, fun j hj hjS => ?_⟩
          exact (ho2.block j (Nat.lt_of_lt_of_le hj (HO1.out.alloc (.cells #[.string (Mt.str (r.take n))] 9)).size) (by simp; omega)).trans ((HO1.out.alloc _).block j hj hjS)
        have HX : Hid (∃ done' r' gv', Mt.drn l = (done' ++ (Mt.drn r').1, (Mt.drn r').2) ∧ (Mt.svs done').length + r'.length ≤ l.length ∧ IsBuf w2 B g r' 0 ∧ IsRw 9 1 w2 gv' v' done'.length (Mt.svs done') ∧ w.heap.size ≤ gv' ∧ OnlyS [B, g] w w2) := by
          refine ⟨done ++ [r.take n], r.drop n, gv2, ?_, ?_, hbuf2, ?_, hgv2, ho3⟩
          · rw [HD.out, HE.out]; simp
          · have := HL.out; rw [Mt.svs_length]; simp; omega
          · simpa using hrw2
        have hl2 := lenAt_of hbuf2
        have HM : Hid (lenAt B w2 < lenAt B wr) := by
          have : lenAt B w2 < lenAt B wr := by rw [hl2, hl0]; simp; omega
          exact this
        clear hb ho1 hrow hrw2 hg2 ho2 hdl hbuf2 ho3 hl2 hl0 hgv2
        go_wp2_with (at_builtin; refine wpList_append_run rfl _ _ 60 60 rfl _ _ rfl rfl hrun ?_)
        go_roundw
        case rel => exact HX
        case measure => exact HM.out
    · have HN := Lib.hid (bnext_err hbuf hrl he)
      have HE := Lib.hid (Mt.drn_bad he)
      clear he hbuf
      go_wp2_with fail
      refine (HN.out).mono ?_
      rintro x w1 ⟨rfl, hb, ho1⟩
      have HB1 := Lib.hid hb
      have HO1 := Lib.hid ho1
      clear hb ho1
      go_wp2_with fail
      refine bodyPost_ret (v := .tuple #[.slice va done.length vc, .int .i64 (Mt.cutL r).2]) (by simp [results, Try.results31, go_sem]) rfl ?_
      refine ⟨.slice va done.length vc, gv, ?_, ?_, hgv, hgvB, ?_, HO.out.trans HO1.out⟩
      · rw [HD.out, HE.out]
      · rw [HD.out, HE.out]; simp only [List.append_nil]
        exact HRW.out.other HO1.out (by simp; omega)
      · rw [HD.out, HE.out]; exact HB1.out
end
end Go.Proofs.Ytfnggifadhploaa
