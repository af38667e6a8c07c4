/-
  Loop 5 of the document's Sum256: the sixty-four words.
-/
import Derived.Test.YtpdionmecflibaaDoorR26
namespace Go.Proofs.YtpdionmecflibaaDoor
open Go.RowKit

theorem Mt.c32_app (a b : List Nat) : Mt.c32 (a ++ b) = Mt.c32 a ++ Mt.c32 b := by simp [Mt.c32]

set_option maxHeartbeats 2000000 in
set_option maxRecDepth 1000000 in
theorem loop5 {x0 x1 x2 x4 x5 x6 x7 x8 x9 x10 x14 x15 x16 x17 x18 x19 x20 x21 x22 x23 x24 x25 x26 x27 x28 x29 x30 x31 x32 x33 x34 x35 x36 x37 x38 x39 x40 x41 x42 x43 x44 x45 x46 x47 x48 x49 x50 x51 x52 x53 x54 x55 x56 x57 x58 x59 x60 x61 x62 x63 x64 x65 x66 x67 x68 x69 x70 x71 x72 x73 x74 x75 x76 x77 x78 x79 x80 x81 x82 x83 x84 x85 x86 x87 x88 x89 x90 x91 x92 x93 x94 x95 x96 x97 x98 x99 x100 x101 x102 x103 x104 x105 x106 x107 x108 x109 x110 x111 x112 x113 x114 x115 x116 x117 x118 x119 x120 x121 x122 x123 x124 x125 x126 x127 x128 x129 x130 x131 x132 x133 x134 x135 x136 x137 x138 x139 x140 x141 x142 x143 x144 x145 x146 x147 x148 x149 x150 x151 x152 x153 x154 x155 x156 x157 x158 x159 x160 x161 x162 x163 x164 x165 x166 x167 x168 x169 x170 x171 x172 x173 x174 x175 x176 x177 x178 x179 x180 x181 x182 x183 x184 x185 x186 x187 x188 x189 x190 x191 x192 x193 x194 x195 x196 x197 x198 x199 x200 x201 x202 x203 x204 x205 x206 x207 x208 x209 x210 x211 x212 x213 x214 x215 x216 x217 x218 x219 x220 x221 x222 x223 x224 x225 x226 x227 x228 x229 x230 x231 x232 : Value} (g NN cp T : Nat) (blk : List UInt8) (w6 : World) (K : Act → World → Prop) (Q : Exit → Act → World → Prop)
    (hT : T + 64 ≤ NN) (hN : NN ≤ 1099511627776) (hg : g < w6.heap.size) (hcell : ∀ i, i < 64 → w6.cell? ⟨g, T + i, none⟩ = some (.int .u8 ((blk.getD i 0).toNat : Int)))
    (hfin : ∀ (y12 y13 y14 y15 y78 y79 y80 y81 y82 y83 y84 y85 y86 y87 y88 y89 y90 y91 y92 y93 y94 y95 y96 y97 y98 y99 y100 y101 y102 y103 y104 y105 y106 y107 y108 y109 y110 y111 y112 y113 y114 y115 y116 y117 y118 y119 y120 y121 y122 y123 y124 y125 y126 y127 y128 y129 y130 y131 y132 y133 y134 y135 y136 y137 y138 y139 y140 y141 y142 y143 y144 y145 y146 y147 y148 y149 y150 y151 y152 y153 y154 y155 y156 y157 y158 y159 y160 y161 y162 y163 y164 y165 y166 y167 y168 y169 : Value) (u : World), u.ownsRow w6.heap.size 53 1 y12 64 (Mt.c32 (Mt.wl blk 64)) → Below w6.heap.size w6 u → K ⟨#[x0, x1, x2, Value.slice (some ⟨g, 0, none⟩) NN cp, x4, x5, x6, x7, x8, x9, x10, Value.int .i64 (T : Int), y12, y13, y14, y15, x16, x17, x18, x19, x20, x21, x22, x23, x24, x25, x26, x27, x28, x29, x30, x31, x32, x33, x34, x35, x36, x37, x38, x39, x40, x41, x42, x43, x44, x45, x46, x47, x48, x49, x50, x51, x52, x53, x54, x55, x56, x57, x58, x59, x60, x61, x62, x63, x64, x65, x66, x67, x68, x69, x70, x71, x72, x73, x74, x75, x76, x77, y78, y79, y80, y81, y82, y83, y84, y85, y86, y87, y88, y89, y90, y91, y92, y93, y94, y95, y96, y97, y98, y99, y100, y101, y102, y103, y104, y105, y106, y107, y108, y109, y110, y111, y112, y113, y114, y115, y116, y117, y118, y119, y120, y121, y122, y123, y124, y125, y126, y127, y128, y129, y130, y131, y132, y133, y134, y135, y136, y137, y138, y139, y140, y141, y142, y143, y144, y145, y146, y147, y148, y149, y150, y151, y152, y153, y154, y155, y156, y157, y158, y159, y160, y161, y162, y163, y164, y165, y166, y167, y168, y169, x170, x171, x172, x173, x174, x175, x176, x177, x178, x179, x180, x181, x182, x183, x184, x185, x186, x187, x188, x189, x190, x191, x192, x193, x194, x195, x196, x197, x198, x199, x200, x201, x202, x203, x204, x205, x206, x207, x208, x209, x210, x211, x212, x213, x214, x215, x216, x217, x218, x219, x220, x221, x222, x223, x224, x225, x226, x227, x228, x229, x230, x231, x232], []⟩ u) :
    Code.wp Tryd.prog (Code.loop (rbody 4)) (Exit.inBlock 8 (Exit.then K Q)) ⟨#[x0, x1, x2, Value.slice (some ⟨g, 0, none⟩) NN cp, x4, x5, x6, x7, x8, x9, x10, Value.int .i64 (T : Int), Value.slice none 0 0, Value.int .i64 0, x14, x15, x16, x17, x18, x19, x20, x21, x22, x23, x24, x25, x26, x27, x28, x29, x30, x31, x32, x33, x34, x35, x36, x37, x38, x39, x40, x41, x42, x43, x44, x45, x46, x47, x48, x49, x50, x51, x52, x53, x54, x55, x56, x57, x58, x59, x60, x61, x62, x63, x64, x65, x66, x67, x68, x69, x70, x71, x72, x73, x74, x75, x76, x77, x78, x79, x80, x81, x82, x83, x84, x85, x86, x87, x88, x89, x90, x91, x92, x93, x94, x95, x96, x97, x98, x99, x100, x101, x102, x103, x104, x105, x106, x107, x108, x109, x110, x111, x112, x113, x114, x115, x116, x117, x118, x119, x120, x121, x122, x123, x124, x125, x126, x127, x128, x129, x130, x131, x132, x133, x134, x135, x136, x137, x138, x139, x140, x141, x142, x143, x144, x145, x146, x147, x148, x149, x150, x151, x152, x153, x154, x155, x156, x157, x158, x159, x160, x161, x162, x163, x164, x165, x166, x167, x168, x169, x170, x171, x172, x173, x174, x175, x176, x177, x178, x179, x180, x181, x182, x183, x184, x185, x186, x187, x188, x189, x190, x191, x192, x193, x194, x195, x196, x197, x198, x199, x200, x201, x202, x203, x204, x205, x206, x207, x208, x209, x210, x211, x212, x213, x214, x215, x216, x217, x218, x219, x220, x221, x222, x223, x224, x225, x226, x227, x228, x229, x230, x231, x232], []⟩ w6 := by
  have HFIN := Lib.hid hfin
  have HCELL := Lib.hid hcell
  have HG := Lib.hid hg
  clear hfin hcell hg
  conv => zeta
  conv => arg 2; arg 1; whnf
  go_loopw [12, 13] (fun wv i wx => ∃ k : Nat, k ≤ 64 ∧ i = .int .i64 k ∧ Hid (wx.ownsRow w6.heap.size 53 1 wv k (Mt.c32 (Mt.wl blk k))) ∧ Hid (Below w6.heap.size w6 wx)) (fun _ i _ => 64 - (intOf i).toNat)
  case atStart => exact ⟨0, by omega, rfl, Lib.hid (World.ownsRow_nil _ _ _ _), Lib.hid (Below.refl _ _)⟩
  case round =>
    obtain ⟨k, hk, rfl, HWO, HWB⟩ := hrel
    by_cases hk64 : k < 64
    · have hk64' : (k : Int) < 64 := by omega
      have HSN := Lib.hid (show Mt.wl blk (k + 1) = Mt.wl blk k ++ [Mt.newW blk (Mt.wl blk k) k] from rfl)
      by_cases hk16 : k < 16
      · have hk16' : (k : Int) < 16 := by omega
        have hc0 := HCELL.out (4 * k) (by omega)
        have hc1 := HCELL.out (4 * k + 1) (by omega)
        have hc2 := HCELL.out (4 * k + 2) (by omega)
        have hc3 := HCELL.out (4 * k + 3) (by omega)
        have HNW := Lib.hid (show Mt.newW blk (Mt.wl blk k) k = (blk.getD (4 * k) 0).toNat * 16777216 + (blk.getD (4 * k + 1) 0).toNat * 65536 + (blk.getD (4 * k + 2) 0).toNat * 256 + (blk.getD (4 * k + 3) 0).toNat by rw [Mt.newW, if_pos hk16]; rfl)
        have HL := Lib.hid (show (blk.getD (4 * k) 0).toNat < 256 ∧ (blk.getD (4 * k + 1) 0).toNat < 256 ∧ (blk.getD (4 * k + 2) 0).toNat < 256 ∧ (blk.getD (4 * k + 3) 0).toNat < 256 from ⟨UInt8.toNat_lt _, UInt8.toNat_lt _, UInt8.toNat_lt _, UInt8.toNat_lt _⟩)
        generalize (blk.getD (4 * k) 0).toNat = c0 at hc0 HNW HL
        generalize (blk.getD (4 * k + 1) 0).toNat = c1 at hc1 HNW HL
        generalize (blk.getD (4 * k + 2) 0).toNat = c2 at hc2 HNW HL
        generalize (blk.getD (4 * k + 3) 0).toNat = c3 at hc3 HNW HL
        rw [← Nat.add_assoc] at hc1 hc2 hc3
        have HC := Lib.hid (And.intro hc0 (And.intro hc1 (And.intro hc2 hc3)))
        clear hc0 hc1 hc2 hc3
        go_wp2_with fail
        refine region26 g NN cp T k c0 c1 c2 c3 (Mt.c32 (Mt.wl blk k)) w6 _ _ hT hN hk16 HL.out.1 HL.out.2.1 HL.out.2.2.1 HL.out.2.2.2 HG.out HC.out.1 HC.out.2.1 HC.out.2.2.1 HC.out.2.2.2 HWO.out HWB.out ?_
        intro v u ho hb
        have HO := Lib.hid ho
        have HB := Lib.hid hb
        clear ho hb HWO HWB HC
        go_wp2_with fail
        go_roundw
        case rel =>
          refine ⟨k + 1, by omega, by go_num, Lib.hid ?_, HB⟩
          rw [HSN.out, Mt.c32_app, HNW.out]
          have e : Mt.c32 [c0 * 16777216 + c1 * 65536 + c2 * 256 + c3] = [Value.int .u32 ((c0 : Int) * 16777216 + (c1 : Int) * 65536 + (c2 : Int) * 256 + (c3 : Int))] := by
            simp [Mt.c32]
          rw [e]
          exact HO.out
        case measure => simp [intOf]; omega
      · obtain ⟨m, hm⟩ : ∃ m, k = m + 16 := ⟨k - 16, by omega⟩
        have hk16' : decide ((k : Int) < 16) = false := decide_eq_false (by omega)
        obtain ⟨gw, cw, rfl⟩ := own_form HWO.out (by omega)
        have hget : ∀ i, i < k → (Mt.c32 (Mt.wl blk k))[i]? = some (.int .u32 (((Mt.wl blk k).getD i 0 : Nat) : Int)) := fun i hi => Mt.c32_get _ _ (by rw [Mt.wl_length]; exact hi)
        have hcg : ∀ i, i < k → wr.cell? ⟨gw, i, none⟩ = some (.int .u32 (((Mt.wl blk k).getD i 0 : Nat) : Int)) := fun i hi => by
          rw [HWO.out.cellAt i (by omega)]; exact hget i hi
        have hlt2 := Mt.getD_lt (Mt.wl_lt blk k) (m + 14)
        have hlt15 := Mt.getD_lt (Mt.wl_lt blk k) (m + 1)
        have HNW := Lib.hid (show Mt.newW blk (Mt.wl blk k) k = (Mt.s1 ((Mt.wl blk k).getD (m + 14) 0) + (Mt.wl blk k).getD (m + 9) 0 + Mt.s0 ((Mt.wl blk k).getD (m + 1) 0) + (Mt.wl blk k).getD m 0) % 4294967296 by
          subst hm; rw [Mt.newW, if_neg (by omega)]; rfl)
        have HP0 := Lib.hid (hget m (by omega))
        have HP9 := Lib.hid (hget (m + 9) (by omega))
        have hp14 := hcg (m + 14) (by omega)
        have hp1 := hcg (m + 1) (by omega)
        clear hget hcg
        generalize (Mt.wl blk k).getD (m + 14) 0 = p14 at hp14 hlt2 HNW
        generalize (Mt.wl blk k).getD (m + 9) 0 = p9 at HP9 HNW
        generalize (Mt.wl blk k).getD (m + 1) 0 = p1 at hp1 hlt15 HNW
        generalize (Mt.wl blk k).getD m 0 = p0 at HP0 HNW
        have z1 := Lib.hid (u32_xor_nat (Mt.rr 17 p14) (Mt.rr 19 p14) (Mt.rr_lt _ _ hlt2) (Mt.rr_lt _ _ hlt2))
        have z2 := Lib.hid (u32_xor_nat (Mt.rr 17 p14 ^^^ Mt.rr 19 p14) (p14 / 1024) (xor_lt _ _ (Mt.rr_lt _ _ hlt2) (Mt.rr_lt _ _ hlt2)) (by omega))
        have y1 := Lib.hid (u32_xor_nat (Mt.rr 7 p1) (Mt.rr 18 p1) (Mt.rr_lt _ _ hlt15) (Mt.rr_lt _ _ hlt15))
        have y2 := Lib.hid (u32_xor_nat (Mt.rr 7 p1 ^^^ Mt.rr 18 p1) (p1 / 8) (xor_lt _ _ (Mt.rr_lt _ _ hlt15) (Mt.rr_lt _ _ hlt15)) (by omega))
        have R17 := Lib.hid (fun u => rturn_any p14 17 u hlt2 (by decide) (by decide))
        have R19 := Lib.hid (fun u => rturn_any p14 19 u hlt2 (by decide) (by decide))
        have R7 := Lib.hid (fun u => rturn_any p1 7 u hlt15 (by decide) (by decide))
        have R18 := Lib.hid (fun u => rturn_any p1 18 u hlt15 (by decide) (by decide))
        have HS1 := Lib.hid (show Mt.s1 p14 = Mt.rr 17 p14 ^^^ Mt.rr 19 p14 ^^^ p14 / 1024 from rfl)
        have HS0 := Lib.hid (show Mt.s0 p1 = Mt.rr 7 p1 ^^^ Mt.rr 18 p1 ^^^ p1 / 8 from rfl)
        rw [Int.natCast_ediv] at z2 y2
        generalize Mt.rr 17 p14 ^^^ Mt.rr 19 p14 ^^^ p14 / 1024 = z at z2 HS1
        generalize Mt.rr 17 p14 ^^^ Mt.rr 19 p14 = zp at z1 z2
        generalize Mt.rr 7 p1 ^^^ Mt.rr 18 p1 ^^^ p1 / 8 = y at y2 HS0
        generalize Mt.rr 7 p1 ^^^ Mt.rr 18 p1 = yp at y1 y2
        generalize Mt.rr 17 p14 = z17 at z1 R17
        generalize Mt.rr 19 p14 = z19 at z1 R19
        generalize Mt.rr 7 p1 = y7 at y1 R7
        generalize Mt.rr 18 p1 = y18 at y1 R18
        rw [HS1.out, HS0.out] at HNW
        clear HS1 HS0
        have HM := Lib.hid hm
        have q1 : (15 : Int) ≤ (k : Int) := by omega
        have q2 : (2 : Int) ≤ (k : Int) := by omega
        have q3 : k - 15 = m + 1 := by omega
        have q4 : k - 2 = m + 14 := by omega
        have q5 : ((k : Int) - 15).toNat = m + 1 := by omega
        have q6 : ((k : Int) - 2).toNat = m + 14 := by omega
        clear hm
        go_wp2_with fail
        refine region29 gw cw k m p0 p1 p9 p14 y7 y18 yp y z17 z19 zp z ((p0 + y) % 4294967296) (((p0 + y) % 4294967296 + p9) % 4294967296) ((((p0 + y) % 4294967296 + p9) % 4294967296 + z) % 4294967296) (Mt.c32 (Mt.wl blk k)) w6 _ _ HM.out hk64 hlt15 hlt2 R7.out R18.out R17.out R19.out y1.out y2.out z1.out z2.out (by omega) (by omega) (by omega) HP0.out HP9.out HWO.out HWB.out ?_
        intro v u ho hb
        have HO := Lib.hid ho
        have HB := Lib.hid hb
        clear ho hb HWO HWB hp14 hp1
        go_wp2_with fail
        go_roundw
        case rel =>
          refine ⟨k + 1, by omega, by go_num, Lib.hid ?_, HB⟩
          rw [HSN.out, Mt.c32_app, HNW.out]
          have e : Mt.c32 [(z + p9 + y + p0) % 4294967296] = [Value.int .u32 (((((p0 + y) % 4294967296 + p9) % 4294967296 + z) % 4294967296 : Nat) : Int)] := by
            have e2 : (z + p9 + y + p0) % 4294967296 = (((p0 + y) % 4294967296 + p9) % 4294967296 + z) % 4294967296 := by omega
            rw [e2]; rfl
          rw [e]
          exact HO.out
        case measure => simp [intOf]; omega
    · have hk64' : decide ((k : Int) < 64) = false := decide_eq_false (by omega)
      have HWF : Hid (wr.ownsRow w6.heap.size 53 1 u12 64 (Mt.c32 (Mt.wl blk 64))) := Lib.hid (by
        obtain rfl : k = 64 := by omega
        exact HWO.out)
      clear HWO
      go_wp2_with fail
      exact HFIN.out _ _ _ _ _ _ _ _ _ _ _ _ _ _ _ _ _ _ _ _ _ _ _ _ _ _ _ _ _ _ _ _ _ _ _ _ _ _ _ _ _ _ _ _ _ _ _ _ _ _ _ _ _ _ _ _ _ _ _ _ _ _ _ _ _ _ _ _ _ _ _ _ _ _ _ _ _ _ _ _ _ _ _ _ _ _ _ _ _ _ _ _ _ _ _ _ _ HWF.out HWB.out

end Go.Proofs.YtpdionmecflibaaDoor
