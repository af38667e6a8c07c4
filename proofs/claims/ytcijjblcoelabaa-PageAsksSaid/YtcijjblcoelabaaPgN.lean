/-
  What the document's Answer and Ask come to.
-/
import Derived.Test.YtcijjblcoelabaaPgM
import Derived.Test.YtcijjblcoelabaaTvMb
import Derived.Test.YtcijjblcoelabaaTvR
set_option linter.unusedVariables false
set_option linter.unusedSimpArgs false
namespace Go.Proofs.Ytcijjblcoelabaa
open Go.RowKit Go.Shelf

theorem Mt.putAll_len {f : Mt.Nd → Except Nat (List UInt8)} (hf : ∀ n s, f n = .ok s → s ≠ []) : ∀ {ks : List Mt.Nd} {bs : List UInt8}, Mt.putAll f ks = .ok bs → ks.length ≤ bs.length
  | [], _, _ => Nat.zero_le _
  | k :: r, bs, h => by
    simp only [Mt.putAll] at h
    split at h
    · cases h
    · rename_i s hs
      split at h
      · cases h
      · rename_i t ht
        injection h with h
        have h1 := Mt.putAll_len hf ht
        have h2 := List.length_pos_iff.2 (hf _ _ hs)
        rw [← h, List.length_append, List.length_cons]
        omega
theorem Mt.put_small : ∀ (d : Nat) (n : Mt.Nd) (s : List UInt8), Mt.putL d n = .ok s → Mt.Small d n
  | 0, _, _, h => by simp [Mt.putL] at h
  | d + 1, .mk t data kids, s, h => by
    obtain ⟨bs, hbs, _, _, _, _, _, hl, _⟩ := Mt.putL_parts h
    have h1 := Mt.putAll_len (fun n s h => Mt.putL_ne h) hbs
    rw [List.length_append] at hl
    refine ⟨by simp only [Mt.Nd.data]; omega, by simp only [Mt.Nd.kids]; omega, fun k hk => ?_⟩
    obtain ⟨s', hs'⟩ := Mt.putAll_mem hbs k hk
    exact Mt.put_small d k s' hs'
theorem row_ans (w : World) (A C : ByteArray) : RowF w.heap.size 2 2 [(2, A), (4, C)] (w.alloc (.cells #[.int .i64 2, .string A, .slice none 0 0, .int .i64 4, .string C, .slice none 0 0] 76)) :=
  ⟨_, heap_alloc_new w _, rfl, fun j _ => by simp [flC]⟩
set_option maxRecDepth 100000 in
set_option maxHeartbeats 1000000 in
theorem ranswer26_any (size : Int) (C : List UInt8) (hC : C.length ≤ 1000000) (h0 : -9223372036854775808 ≤ size) (h1 : size ≤ 9223372036854775807) (w : World) :
    Calls Try.prog 24 #[.int .i64 size, .string (Mt.str C)] w fun e w' => e = .returned (.string (Mt.str (Mt.ansL size C))) ∧ Below w.heap.size w w' := by
  by_cases hr : 0 ≤ size ∧ size ≤ 2147483647
  · have HI := Lib.hid (fun u => rint_any size u h0 h1)
    have hal : (Mt.intL size).length ≤ 140737488351232 := by have := Mt.intL_small hr.1 hr.2; omega
    obtain ⟨R, hp, ha, hlen⟩ := Mt.ans_put hr hC
    rw [ha]
    have HPU : Hid (∀ (u : World) (gb : Nat), RowF gb 2 2 [(2, Mt.str (Mt.intL size)), (4, Mt.str C)] u → Calls Try.prog 46 #[.agg #[.int .i64 48, .string ⟨#[]⟩, .slice (some ⟨gb, 0, none⟩) 2 2]] u fun e w' => e = .returned (.tuple #[.string (Mt.str R), .int .i64 0]) ∧ Below u.heap.size u w') := Lib.hid (fun u gb hw => by
      have h := rPut_any (Mt.ansN size C) _ u (fun _ => True) 2 64 (ans_nd hal (by omega) hw) (Mt.put_small 64 _ _ hp)
      rw [hp] at h
      exact h)
    have hn0 : ¬ size < 0 := by omega
    have hn1 : ¬ 2147483647 < size := by omega
    clear hal hp ha hlen h0 h1 hC hr
    generalize Mt.str (Mt.intL size) = SA at *
    generalize Mt.str C = SC at *
    generalize Mt.str R = SR at *
    have HR := Lib.hid (fun u => row_ans u SA SC)
    go_enter Try.func24, Try.ntmps24
    go_wp2_with fail
    refine (HI.out _).mono ?_
    rintro e w2 ⟨rfl, hb2⟩
    have HB2 := Lib.hid hb2
    clear hb2
    go_wp2_with fail
    refine (HPU.out _ _ (HR.out w2)).mono ?_
    rintro e w6 ⟨rfl, hb6⟩
    have HB5 := Lib.hid (HB2.out.alloc HB2.out.size (.cells #[.int .i64 2, .string SA, .slice none 0 0, .int .i64 4, .string SC, .slice none 0 0] 76))
    have HB6 := Lib.hid (HB5.out.trans (hb6.mono HB5.out.size))
    clear hb6
    go_wp2_with fail
    all_goals (go_ret; exact ⟨rfl, HB6.out⟩)
  · have hans : Mt.ansL size C = [] := by unfold Mt.ansL; rw [if_neg hr]
    rw [hans]
    by_cases h2 : size < 0
    · go_enter Try.func24, Try.ntmps24
      go_wp2_with fail
      all_goals (go_ret; exact ⟨rfl, Below.refl _ _⟩)
    · have h3 : 2147483647 < size := by omega
      go_enter Try.func24, Try.ntmps24
      go_wp2_with fail
      all_goals (go_ret; exact ⟨rfl, Below.refl _ _⟩)
theorem Mt.putAll_memlen {f : Mt.Nd → Except Nat (List UInt8)} : ∀ {ks : List Mt.Nd} {bs : List UInt8}, Mt.putAll f ks = .ok bs → ∀ n ∈ ks, ∃ s, f n = .ok s ∧ s.length ≤ bs.length
  | [], _, _, n, hn => by cases hn
  | k :: r, bs, h, n, hn => by
    simp only [Mt.putAll] at h
    split at h
    · cases h
    · rename_i s hs
      split at h
      · cases h
      · rename_i t ht
        injection h with h
        rw [← h, List.length_append]
        rcases List.mem_cons.1 hn with rfl | hn
        · exact ⟨s, hs, by omega⟩
        · obtain ⟨s', h1, h2⟩ := Mt.putAll_memlen ht n hn
          exact ⟨s', h1, by omega⟩
theorem Mt.putL_data : ∀ {d : Nat} {n : Mt.Nd} {s : List UInt8}, Mt.putL d n = .ok s → n.data.length ≤ s.length
  | 0, _, _, h => by simp [Mt.putL] at h
  | d + 1, .mk t data kids, s, h => by
    obtain ⟨bs, hbs, _, _, _, _, _, hl, he⟩ := Mt.putL_parts h
    rw [he]
    simp only [List.length_append, Mt.Nd.data]
    omega
theorem Mt.kid_data {d : Nat} {n : Mt.Nd} {s : List UInt8} (h : Mt.putL (d + 1) n = .ok s) {k : Mt.Nd} (hk : k ∈ n.kids) : k.data.length ≤ s.length := by
  obtain ⟨t, data, kids⟩ := n
  obtain ⟨bs, hbs, _, _, _, _, _, hl, he⟩ := Mt.putL_parts h
  obtain ⟨s', h1, h2⟩ := Mt.putAll_memlen hbs k hk
  have := Mt.putL_data h1
  rw [he]
  simp only [List.length_append]
  omega
theorem Mt.whole_parse {l : List UInt8} {n : Mt.Nd} (h : Mt.wholeL l = .ok n) : Mt.parseL 64 l = .ok (n, []) := by
  unfold Mt.wholeL at h
  split at h
  · cases h
  · rename_i q hq
    split at h
    · rename_i h0
      injection h with h
      rw [hq, ← h, ← h0]
    · cases h
theorem ne_str26 {a b : List UInt8} (h : a ≠ b) : ((Mt.str a).toList == (Mt.str b).toList) = false := by
  rw [ByteArray.toList_eq, ByteArray.toList_eq]
  simpa [Mt.str] using h
set_option maxRecDepth 100000 in
set_option maxHeartbeats 1000000 in
theorem rask26_any (s : ByteArray) (w : World) (hs : s.size ≤ 1000000) : Calls Try.prog 22 #[.string s] w fun e w' => e = .returned (askV (Mt.askS s.data.toList)) ∧ Below w.heap.size w w' := by
  have HW := Lib.hid (rWhole_any s w (by omega))
  have HSP : Hid (Mt.askS s.data.toList = match Mt.wholeL s.data.toList with | .ok n => Mt.askPg n | .error _ => none) := Lib.hid rfl
  have HER := Lib.hid (fun e => Mt.wholeL_err (l := s.data.toList) (e := e))
  have HOK : Hid (∀ n, Mt.wholeL s.data.toList = .ok n → Mt.askPg n = Mt.raskPg n ∧ ∃ S, Mt.putL 64 n = .ok S ∧ S.length ≤ 1000000) := Lib.hid (fun n h => by
    have hp := Mt.whole_parse h
    obtain ⟨S, h1, h2⟩ := Mt.put_parse 64 _ _ _ hp
    have hl : s.data.toList.length = s.size := rfl
    exact ⟨Mt.ask_same hp, S, h1, by rw [hl] at h2; omega⟩)
  unfold WholeP at HW
  generalize Mt.askS s.data.toList = R at *
  generalize Mt.wholeL s.data.toList = X at *
  clear hs
  go_enter Try.func22, Try.ntmps22
  go_wp2_with fail
  refine (HW.out).mono ?_
  rintro x w1 ⟨hb1, hx⟩
  have HB1 := Lib.hid hb1
  clear hb1
  cases X with
  | error e =>
    simp only at hx
    subst hx
    have hne := HER.out e rfl
    have he1 : ((e : Int) != 0) = true := by simp; omega
    have he2 : ((e : Int) == 0) = false := by simp; omega
    have hR := HSP.out
    simp only at hR
    subst hR
    clear HER HSP HOK hne
    unfold zeroN
    go_wp2_with fail
    all_goals (go_ret3; exact ⟨rfl, HB1.out.alloc HB1.out.size _⟩)
  | ok n =>
    simp only at hx
    obtain ⟨v, rfl, hn⟩ := hx
    have hR := HSP.out
    simp only at hR
    subst hR
    obtain ⟨hsame, S, hput, hSl⟩ := HOK.out n rfl
    clear HER HSP HOK
    by_cases ht : ∃ a b, n.kids = [a, b]
    · obtain ⟨a, b, hk⟩ := ht
      have hdb : b.data.length ≤ 1000000 := Nat.le_trans (Mt.kid_data hput (by rw [hk]; simp)) hSl
      have hn' := hn
      have hsm := Mt.put_small 64 n S hput
      obtain ⟨g, off, c, rfl, ka, na, ca, kb, nb, cb, ⟨x0, x1, x2⟩, ⟨y0, y1, y2⟩, had⟩ := two_kids hn hk
      have hgl : g < w1.heap.size := World.block_lt_of_cell? w1 _ x0
      have hgne : ¬ g = w1.heap.size := by omega
      have hgne' : ¬ w1.heap.size = g := by omega
      obtain ⟨O, hO⟩ : ∃ O, Obj.cells #[.int .i64 n.tag, .string (Mt.str n.data), .slice (some ⟨g, off, none⟩) 2 c] 76 (0, 0) = O := ⟨_, rfl⟩
      have hWA : Below w.heap.size w (w1.alloc O) := HB1.out.alloc HB1.out.size _
      have hbb := (Below.refl w1.heap.size w1).alloc (Nat.le_refl _) O
      have hsz : (w1.alloc O).heap.size = w1.heap.size + 1 := by simp
      have hbox := heap_alloc_new w1 O
      have HQ : Hid (∀ u, Below (w1.alloc O).heap.size (w1.alloc O) u → Below w.heap.size w u ∧ (u.cell? ⟨w1.heap.size, 0, none⟩ = some (.int .i64 n.tag) ∧ u.cell? ⟨w1.heap.size, 1, none⟩ = some (.string (Mt.str n.data)) ∧ u.cell? ⟨w1.heap.size, 2, none⟩ = some (.slice (some ⟨g, off, none⟩) 2 c)) ∧ (u.cell? ⟨g, off + 1, none⟩ = some (.string (Mt.str a.data)) ∧ u.cell? ⟨g, off + 3 + 1, none⟩ = some (.string (Mt.str b.data))) ∧ IsNd u (fun b => w.heap.size ≤ b) 64 (.agg #[.int .i64 n.tag, .string (Mt.str n.data), .slice (some ⟨g, off, none⟩) 2 c]) n) := Lib.hid (fun u hu => by
        obtain ⟨c0, c1, c2, -, -, -⟩ := box_of (((hu.block _ (by omega)).trans hbox).trans (by rw [hO]))
        have hu1 := hbb.trans (hu.mono (by omega))
        exact ⟨hWA.trans (hu.mono (by have := HB1.out.size; omega)), ⟨c0, c1, c2⟩, ⟨(hu1.cell (p := ⟨g, off + 1, none⟩) hgl).trans x1, (hu1.cell (p := ⟨g, off + 3 + 1, none⟩) hgl).trans y1⟩, hn'.below hu1⟩)
      have HR0 := Lib.hid (Below.refl (w1.alloc O).heap.size (w1.alloc O))
      have HPT : Hid (∀ u, IsNd u (fun b => w.heap.size ≤ b) 64 (.agg #[.int .i64 n.tag, .string (Mt.str n.data), .slice (some ⟨g, off, none⟩) 2 c]) n → Calls Try.prog 46 #[.agg #[.int .i64 n.tag, .string (Mt.str n.data), .slice (some ⟨g, off, none⟩) 2 c]] u fun e w' => e = .returned (.tuple #[.string (Mt.str S), .int .i64 0]) ∧ Below u.heap.size u w') := Lib.hid (fun u hu => by
        have h := rPut_any n _ u _ 64 64 hu hsm
        rw [hput] at h
        exact h)
      have HA : Hid (Mt.askPg n = if (Mt.numL a.data).2 = true ∧ 0 ≤ (Mt.numL a.data).1 ∧ (Mt.numL a.data).1 ≤ 2147483647 ∧ Mt.ansL (Mt.numL a.data).1 b.data = S then some ((Mt.numL a.data).1, b.data) else none) := Lib.hid (by
        rw [hsame]
        unfold Mt.raskPg
        rw [hk]
        have hd : Mt.putD n = S := by unfold Mt.putD; rw [hput]
        simp only [hd])
      have HN := Lib.hid (fun u => rnumber_any (Mt.str a.data) u (by rw [Mt.str_size]; exact had))
      unfold numV at HN
      rw [Mt.str_data] at HN
      have HAN := Lib.hid (fun nm u h0 h1 => ranswer26_any nm b.data hdb h0 h1 u)
      have HNE := Lib.hid (fun nm => ne_str26 (a := Mt.ansL nm b.data) (b := S))
      clear hn hn' hk hsame hput hSl hdb hsm had hWA hbb hsz hbox hgl
      generalize Mt.numL a.data = nk at *
      obtain ⟨nm, okk⟩ := nk
      obtain ⟨-, ⟨c0, c1, c2⟩, ⟨d1, d2⟩, -⟩ := HQ.out _ HR0.out
      clear x0 x1 x2 y0 y1 y2
      go_wp2_with fail
      refine (HN.out _).mono ?_
      rintro e w3 ⟨rfl, hb3⟩
      have H3 := Lib.hid (HR0.out.trans (hb3.mono HR0.out.size))
      clear hb3 c0 c1 c2 d1 d2
      obtain ⟨-, ⟨c0, c1, c2⟩, ⟨d1, d2⟩, hnd⟩ := HQ.out _ H3.out
      have HP := Lib.hid (HPT.out _ hnd)
      clear hnd
      go_wp2_with fail
      refine (HP.out).mono ?_
      rintro e w4 ⟨rfl, hb4⟩
      have H4 := Lib.hid (H3.out.trans (hb4.mono H3.out.size))
      clear hb4 c0 c1 c2 d1 d2 HP
      obtain ⟨hbw, ⟨c0, c1, c2⟩, ⟨d1, d2⟩, -⟩ := HQ.out _ H4.out
      have HB4 := Lib.hid hbw
      clear hbw
      cases okk with
      | false =>
        have HA' := Lib.hid (HA.out.trans (if_neg (fun h => by simp at h)))
        go_wp2_with fail
        all_goals (go_ret3; exact ⟨by rw [HA'.out]; rfl, HB4.out⟩)
      | true =>
        by_cases h0 : nm < 0
        · have HA' := Lib.hid (HA.out.trans (if_neg (fun h => by omega)))
          go_wp2_with fail
          all_goals (go_ret3; exact ⟨by rw [HA'.out]; rfl, HB4.out⟩)
        · by_cases h1 : 2147483647 < nm
          · have HA' := Lib.hid (HA.out.trans (if_neg (fun h => by omega)))
            go_wp2_with fail
            all_goals (go_ret3; exact ⟨by rw [HA'.out]; rfl, HB4.out⟩)
          · have HAX := Lib.hid (HAN.out nm w4 (by omega) (by omega))
            by_cases hS : Mt.ansL nm b.data = S
            · have HA' := Lib.hid (HA.out.trans (if_pos ⟨rfl, by omega, by omega, hS⟩))
              rw [hS] at HAX
              clear HA HNE hS
              go_wp2_with fail
              refine (HAX.out).mono ?_
              rintro e w5 ⟨rfl, hb5⟩
              have H5 := Lib.hid (H4.out.trans (hb5.mono H4.out.size))
              clear hb5 c0 c1 c2 d1 d2
              obtain ⟨hbw, ⟨c0, c1, c2⟩, ⟨d1, d2⟩, -⟩ := HQ.out _ H5.out
              have HB5 := Lib.hid hbw
              clear hbw
              go_upto_region 8 with fail
              go_region_held3 (fun w' => w'.cell? ⟨w1.heap.size, 2, none⟩ = some (.slice (some ⟨g, off, none⟩) 2 c) ∧ w'.cell? ⟨g, off + 3 + 1, none⟩ = some (.string (Mt.str b.data)))
                (first
                  | go_keep)
                (first
                  | fail)
              all_goals
                go_wp2_with fail
              all_goals (go_ret3; exact ⟨by rw [HA'.out]; rfl, HB5.out.drew⟩)
            · have HA' := Lib.hid (HA.out.trans (if_neg (fun h => hS h.2.2.2)))
              have hne := HNE.out nm hS
              clear HA HNE hS
              generalize Mt.str (Mt.ansL nm b.data) = SN at *
              generalize Mt.str S = SS at *
              go_wp2_with fail
              refine (HAX.out).mono ?_
              rintro e w5 ⟨rfl, hb5⟩
              have H5 := Lib.hid (H4.out.trans (hb5.mono H4.out.size))
              clear hb5 c0 c1 c2 d1 d2
              have HB5 := Lib.hid (HQ.out _ H5.out).1
              go_wp2_with fail
              all_goals (go_ret3; exact ⟨by rw [HA'.out]; rfl, HB5.out⟩)
    · obtain ⟨na, nc, rfl⟩ := hn.form
      have hA : Mt.askPg n = none := by
        unfold Mt.askPg
        split
        · rename_i a b hk
          exact absurd ⟨a, b, hk⟩ ht
        · rfl
      have HA := Lib.hid hA
      have hk2 : n.kids.length ≠ 2 := fun h => ht (by
          match n.kids, h with
          | [a, b], _ => exact ⟨a, b, rfl⟩)
      have hki : ((n.kids.length : Int) != 2) = true := by simp; omega
      clear ht hn hA hk2
      go_wp2_with fail
      all_goals (go_ret3; exact ⟨by rw [HA.out]; rfl, HB1.out.alloc HB1.out.size _⟩)
end Go.Proofs.Ytcijjblcoelabaa
