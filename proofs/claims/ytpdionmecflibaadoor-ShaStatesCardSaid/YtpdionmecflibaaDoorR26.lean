/-
  Region 26 of the document's Sum256: a word out of four bytes, behind the others.
-/
import Derived.Test.YtpdionmecflibaaDoorRCut
import Derived.Test.YtpdionmecflibaaDoorLast2
import Derived.Laws.AppendOwn
namespace Go.Proofs.YtpdionmecflibaaDoor
open Go.RowKit

set_option maxHeartbeats 2000000 in
set_option maxRecDepth 1000000 in
theorem region26 {x0 x1 x2 x4 x5 x6 x7 x8 x9 x10 x14 x15 x16 x17 x18 x19 x20 x21 x22 x23 x24 x25 x26 x27 x28 x29 x30 x31 x32 x33 x34 x35 x36 x37 x38 x39 x40 x41 x42 x43 x44 x45 x46 x47 x48 x49 x50 x51 x52 x53 x54 x55 x56 x57 x58 x59 x60 x61 x62 x63 x64 x65 x66 x67 x68 x69 x70 x71 x72 x73 x74 x75 x76 x77 x78 x79 x80 x81 x82 x83 x84 x85 x86 x87 x88 x89 x90 x91 x92 x93 x94 x95 x96 x97 x98 x99 x100 x101 x102 x103 x104 x105 x106 x107 x108 x109 x110 x111 x112 x113 x114 x115 x116 x117 x118 x119 x120 x121 x122 x123 x124 x125 x126 x127 x128 x129 x130 x131 x132 x133 x134 x135 x136 x137 x138 x139 x140 x141 x142 x143 x144 x145 x146 x147 x148 x149 x150 x151 x152 x153 x154 x155 x156 x157 x158 x159 x160 x161 x162 x163 x164 x165 x166 x167 x168 x169 x170 x171 x172 x173 x174 x175 x176 x177 x178 x179 x180 x181 x182 x183 x184 x185 x186 x187 x188 x189 x190 x191 x192 x193 x194 x195 x196 x197 x198 x199 x200 x201 x202 x203 x204 x205 x206 x207 x208 x209 x210 x211 x212 x213 x214 x215 x216 x217 x218 x219 x220 x221 x222 x223 x224 x225 x226 x227 x228 x229 x230 x231 x232 wv : Value} (g NN cp T k c0 c1 c2 c3 : Nat) (xs : List Value) (w6 w : World) (Q : Exit → Act → World → Prop)
    (hT : T + 64 ≤ NN) (hN : NN ≤ 1099511627776) (hk : k < 16) (hc0 : c0 < 256) (hc1 : c1 < 256) (hc2 : c2 < 256) (hc3 : c3 < 256)
    (hg : g < w6.heap.size) (e0 : w6.cell? ⟨g, T + 4 * k, none⟩ = some (.int .u8 c0)) (e1 : w6.cell? ⟨g, T + 4 * k + 1, none⟩ = some (.int .u8 c1)) (e2 : w6.cell? ⟨g, T + 4 * k + 2, none⟩ = some (.int .u8 c2)) (e3 : w6.cell? ⟨g, T + 4 * k + 3, none⟩ = some (.int .u8 c3))
    (hown : w.ownsRow w6.heap.size 53 1 wv k xs) (hb : Below w6.heap.size w6 w)
    (hfin : ∀ (v : Nat → Value) (u : World), u.ownsRow w6.heap.size 53 1 (v 44) (k + 1) (xs ++ [Value.int .u32 ((c0 : Int) * 16777216 + (c1 : Int) * 65536 + (c2 : Int) * 256 + (c3 : Int))]) → Below w6.heap.size w6 u → Q .normal ⟨#[x0, x1, x2, Value.slice (some ⟨g, 0, none⟩) NN cp, x4, x5, x6, x7, x8, x9, x10, Value.int .i64 (T : Int), v 44, Value.int .i64 (k : Int), x14, x15, x16, x17, x18, x19, x20, x21, x22, x23, x24, x25, x26, x27, x28, x29, x30, x31, x32, x33, x34, x35, x36, x37, x38, x39, x40, x41, x42, x43, x44, x45, x46, x47, x48, x49, x50, x51, x52, x53, x54, x55, x56, x57, x58, x59, x60, x61, x62, x63, x64, x65, x66, x67, x68, x69, x70, x71, x72, x73, x74, x75, x76, x77, x78, x79, x80, x81, x82, x83, v 0, v 1, v 2, v 3, v 4, v 5, v 6, v 7, v 8, v 9, v 10, v 11, v 12, v 13, v 14, v 15, v 16, v 17, v 18, v 19, v 20, v 21, v 22, v 23, v 24, v 25, v 26, v 27, v 28, v 29, v 30, v 31, v 32, v 33, v 34, v 35, v 36, v 37, v 38, v 39, v 40, v 41, v 42, v 43, x128, x129, x130, x131, x132, x133, x134, x135, x136, x137, x138, x139, x140, x141, x142, x143, x144, x145, x146, x147, x148, x149, x150, x151, x152, x153, x154, x155, x156, x157, x158, x159, x160, x161, x162, x163, x164, x165, x166, x167, x168, x169, x170, x171, x172, x173, x174, x175, x176, x177, x178, x179, x180, x181, x182, x183, x184, x185, x186, x187, x188, x189, x190, x191, x192, x193, x194, x195, x196, x197, x198, x199, x200, x201, x202, x203, x204, x205, x206, x207, x208, x209, x210, x211, x212, x213, x214, x215, x216, x217, x218, x219, x220, x221, x222, x223, x224, x225, x226, x227, x228, x229, x230, x231, x232], []⟩ u) :
    Code.wp Tryd.prog (rreg 26) Q ⟨#[x0, x1, x2, Value.slice (some ⟨g, 0, none⟩) NN cp, x4, x5, x6, x7, x8, x9, x10, Value.int .i64 (T : Int), wv, Value.int .i64 (k : Int), x14, x15, x16, x17, x18, x19, x20, x21, x22, x23, x24, x25, x26, x27, x28, x29, x30, x31, x32, x33, x34, x35, x36, x37, x38, x39, x40, x41, x42, x43, x44, x45, x46, x47, x48, x49, x50, x51, x52, x53, x54, x55, x56, x57, x58, x59, x60, x61, x62, x63, x64, x65, x66, x67, x68, x69, x70, x71, x72, x73, x74, x75, x76, x77, x78, x79, x80, x81, x82, x83, x84, x85, x86, x87, x88, x89, x90, x91, x92, x93, x94, x95, x96, x97, x98, x99, x100, x101, x102, x103, x104, x105, x106, x107, x108, x109, x110, x111, x112, x113, x114, x115, x116, x117, x118, x119, x120, x121, x122, x123, x124, x125, x126, x127, x128, x129, x130, x131, x132, x133, x134, x135, x136, x137, x138, x139, x140, x141, x142, x143, x144, x145, x146, x147, x148, x149, x150, x151, x152, x153, x154, x155, x156, x157, x158, x159, x160, x161, x162, x163, x164, x165, x166, x167, x168, x169, x170, x171, x172, x173, x174, x175, x176, x177, x178, x179, x180, x181, x182, x183, x184, x185, x186, x187, x188, x189, x190, x191, x192, x193, x194, x195, x196, x197, x198, x199, x200, x201, x202, x203, x204, x205, x206, x207, x208, x209, x210, x211, x212, x213, x214, x215, x216, x217, x218, x219, x220, x221, x222, x223, x224, x225, x226, x227, x228, x229, x230, x231, x232], []⟩ w := by
  obtain ⟨i8, hi, hz0, hz1, hz2⟩ := info_parts Tryd.infoU32
  have HFIN := Lib.hid hfin
  have HE := Lib.hid (show ∀ u, Below w6.heap.size w6 u → u.cell? ⟨g, T + 4 * k, none⟩ = some (.int .u8 c0) ∧ u.cell? ⟨g, T + 4 * k + 1, none⟩ = some (.int .u8 c1) ∧ u.cell? ⟨g, T + 4 * k + 2, none⟩ = some (.int .u8 c2) ∧ u.cell? ⟨g, T + 4 * k + 3, none⟩ = some (.int .u8 c3) from fun u hu =>
    ⟨by rw [hu.cell (p := ⟨g, T + 4 * k, none⟩) hg]; exact e0, by rw [hu.cell (p := ⟨g, T + 4 * k + 1, none⟩) hg]; exact e1, by rw [hu.cell (p := ⟨g, T + 4 * k + 2, none⟩) hg]; exact e2, by rw [hu.cell (p := ⟨g, T + 4 * k + 3, none⟩) hg]; exact e3⟩)
  have HOWN := Lib.hid hown
  have HB := Lib.hid hb
  clear e0 e1 e2 e3 hown hb hfin
  conv => arg 2; whnf
  refine wp_region_last3 (by kernel_rfl) (fun v => ⟨#[x0, x1, x2, Value.slice (some ⟨g, 0, none⟩) NN cp, x4, x5, x6, x7, x8, x9, x10, Value.int .i64 (T : Int), v 44, Value.int .i64 (k : Int), x14, x15, x16, x17, x18, x19, x20, x21, x22, x23, x24, x25, x26, x27, x28, x29, x30, x31, x32, x33, x34, x35, x36, x37, x38, x39, x40, x41, x42, x43, x44, x45, x46, x47, x48, x49, x50, x51, x52, x53, x54, x55, x56, x57, x58, x59, x60, x61, x62, x63, x64, x65, x66, x67, x68, x69, x70, x71, x72, x73, x74, x75, x76, x77, x78, x79, x80, x81, x82, x83, v 0, v 1, v 2, v 3, v 4, v 5, v 6, v 7, v 8, v 9, v 10, v 11, v 12, v 13, v 14, v 15, v 16, v 17, v 18, v 19, v 20, v 21, v 22, v 23, v 24, v 25, v 26, v 27, v 28, v 29, v 30, v 31, v 32, v 33, v 34, v 35, v 36, v 37, v 38, v 39, v 40, v 41, v 42, v 43, x128, x129, x130, x131, x132, x133, x134, x135, x136, x137, x138, x139, x140, x141, x142, x143, x144, x145, x146, x147, x148, x149, x150, x151, x152, x153, x154, x155, x156, x157, x158, x159, x160, x161, x162, x163, x164, x165, x166, x167, x168, x169, x170, x171, x172, x173, x174, x175, x176, x177, x178, x179, x180, x181, x182, x183, x184, x185, x186, x187, x188, x189, x190, x191, x192, x193, x194, x195, x196, x197, x198, x199, x200, x201, x202, x203, x204, x205, x206, x207, x208, x209, x210, x211, x212, x213, x214, x215, x216, x217, x218, x219, x220, x221, x222, x223, x224, x225, x226, x227, x228, x229, x230, x231, x232], []⟩) (OneAt [.inl (wv), .inl (Value.slice (some ⟨g, 0, none⟩) NN cp), .inl (Value.int .i64 (T : Int)), .inl (Value.int .i64 (k : Int)), .inl (Value.int .i64 (4 * (k : Int))), .inl (Value.int .i64 ((T : Int) + 4 * (k : Int))), .inl (Value.pointer (some ⟨g, T + 4 * k, none⟩)), .inl (Value.int .u8 (c0 : Int)), .inl (Value.int .u32 (c0 : Int)), .inl (Value.int .u32 ((c0 : Int) * 16777216)), .inl (Value.slice (some ⟨g, 0, none⟩) NN cp), .inl (Value.int .i64 (T : Int)), .inl (Value.int .i64 (k : Int)), .inl (Value.int .i64 (4 * (k : Int))), .inl (Value.int .i64 ((T : Int) + 4 * (k : Int))), .inl (Value.int .i64 ((T : Int) + 4 * (k : Int) + 1)), .inl (Value.pointer (some ⟨g, T + 4 * k + 1, none⟩)), .inl (Value.int .u8 (c1 : Int)), .inl (Value.int .u32 (c1 : Int)), .inl (Value.int .u32 ((c1 : Int) * 65536)), .inl (Value.int .u32 ((c0 : Int) * 16777216 + (c1 : Int) * 65536)), .inl (Value.slice (some ⟨g, 0, none⟩) NN cp), .inl (Value.int .i64 (T : Int)), .inl (Value.int .i64 (k : Int)), .inl (Value.int .i64 (4 * (k : Int))), .inl (Value.int .i64 ((T : Int) + 4 * (k : Int))), .inl (Value.int .i64 ((T : Int) + 4 * (k : Int) + 2)), .inl (Value.pointer (some ⟨g, T + 4 * k + 2, none⟩)), .inl (Value.int .u8 (c2 : Int)), .inl (Value.int .u32 (c2 : Int)), .inl (Value.int .u32 ((c2 : Int) * 256)), .inl (Value.int .u32 ((c0 : Int) * 16777216 + (c1 : Int) * 65536 + (c2 : Int) * 256)), .inl (Value.slice (some ⟨g, 0, none⟩) NN cp), .inl (Value.int .i64 (T : Int)), .inl (Value.int .i64 (k : Int)), .inl (Value.int .i64 (4 * (k : Int))), .inl (Value.int .i64 ((T : Int) + 4 * (k : Int))), .inl (Value.int .i64 ((T : Int) + 4 * (k : Int) + 3)), .inl (Value.pointer (some ⟨g, T + 4 * k + 3, none⟩)), .inl (Value.int .u8 (c3 : Int)), .inl (Value.int .u32 (c3 : Int)), .inl (Value.int .u32 ((c0 : Int) * 16777216 + (c1 : Int) * 65536 + (c2 : Int) * 256 + (c3 : Int))), .inr (Value.int .u32 ((c0 : Int) * 16777216 + (c1 : Int) * 65536 + (c2 : Int) * 256 + (c3 : Int)))]) (fun u => Below w6.heap.size w6 u ∧ u.ownsRow w6.heap.size 53 1 wv k xs) (fun x u => u.ownsRow w6.heap.size 53 1 x (k + 1) (xs ++ [Value.int .u32 ((c0 : Int) * 16777216 + (c1 : Int) * 65536 + (c2 : Int) * 256 + (c3 : Int))]) ∧ Below w6.heap.size w6 u) (fun x u => u.ownsRow w6.heap.size 53 1 x (k + 1) (xs ++ [Value.int .u32 ((c0 : Int) * 16777216 + (c1 : Int) * 65536 + (c2 : Int) * 256 + (c3 : Int))]) ∧ Below w6.heap.size w6 u)
    (fun i => ([x84, x85, x86, x87, x88, x89, x90, x91, x92, x93, x94, x95, x96, x97, x98, x99, x100, x101, x102, x103, x104, x105, x106, x107, x108, x109, x110, x111, x112, x113, x114, x115, x116, x117, x118, x119, x120, x121, x122, x123, x124, x125, x126, x127, wv] : List Value).getD i undef) w (oneAt_mono _) (by kernel_rfl) (by kernel_rfl) (by kernel_rfl) (by decide) ?hput ?step ?mid ?last ⟨HB.out.drew, HOWN.out.drew⟩ ?fin
  case hput =>
    intro i o ho v x
    match i, ho with
    | 0, ho => obtain rfl := Option.some.inj ho; rfl
    | 1, ho => obtain rfl := Option.some.inj ho; rfl
    | 2, ho => obtain rfl := Option.some.inj ho; rfl
    | 3, ho => obtain rfl := Option.some.inj ho; rfl
    | 4, ho => obtain rfl := Option.some.inj ho; rfl
    | 5, ho => obtain rfl := Option.some.inj ho; rfl
    | 6, ho => obtain rfl := Option.some.inj ho; rfl
    | 7, ho => obtain rfl := Option.some.inj ho; rfl
    | 8, ho => obtain rfl := Option.some.inj ho; rfl
    | 9, ho => obtain rfl := Option.some.inj ho; rfl
    | 10, ho => obtain rfl := Option.some.inj ho; rfl
    | 11, ho => obtain rfl := Option.some.inj ho; rfl
    | 12, ho => obtain rfl := Option.some.inj ho; rfl
    | 13, ho => obtain rfl := Option.some.inj ho; rfl
    | 14, ho => obtain rfl := Option.some.inj ho; rfl
    | 15, ho => obtain rfl := Option.some.inj ho; rfl
    | 16, ho => obtain rfl := Option.some.inj ho; rfl
    | 17, ho => obtain rfl := Option.some.inj ho; rfl
    | 18, ho => obtain rfl := Option.some.inj ho; rfl
    | 19, ho => obtain rfl := Option.some.inj ho; rfl
    | 20, ho => obtain rfl := Option.some.inj ho; rfl
    | 21, ho => obtain rfl := Option.some.inj ho; rfl
    | 22, ho => obtain rfl := Option.some.inj ho; rfl
    | 23, ho => obtain rfl := Option.some.inj ho; rfl
    | 24, ho => obtain rfl := Option.some.inj ho; rfl
    | 25, ho => obtain rfl := Option.some.inj ho; rfl
    | 26, ho => obtain rfl := Option.some.inj ho; rfl
    | 27, ho => obtain rfl := Option.some.inj ho; rfl
    | 28, ho => obtain rfl := Option.some.inj ho; rfl
    | 29, ho => obtain rfl := Option.some.inj ho; rfl
    | 30, ho => obtain rfl := Option.some.inj ho; rfl
    | 31, ho => obtain rfl := Option.some.inj ho; rfl
    | 32, ho => obtain rfl := Option.some.inj ho; rfl
    | 33, ho => obtain rfl := Option.some.inj ho; rfl
    | 34, ho => obtain rfl := Option.some.inj ho; rfl
    | 35, ho => obtain rfl := Option.some.inj ho; rfl
    | 36, ho => obtain rfl := Option.some.inj ho; rfl
    | 37, ho => obtain rfl := Option.some.inj ho; rfl
    | 38, ho => obtain rfl := Option.some.inj ho; rfl
    | 39, ho => obtain rfl := Option.some.inj ho; rfl
    | 40, ho => obtain rfl := Option.some.inj ho; rfl
    | 41, ho => obtain rfl := Option.some.inj ho; rfl
    | 42, ho => obtain rfl := Option.some.inj ho; rfl
    | 43, ho => obtain rfl := Option.some.inj ho; rfl
    | 44, ho => obtain rfl := Option.some.inj ho; rfl
    | i + 45, ho => cases ho
  case step =>
    intro i o ho hl v u hv hw hd
    match i, ho with
    | 0, ho =>
      obtain rfl := Option.some.inj ho
      clear hd ho
      refine wpOp_step rfl (fun K' hK' => ?_)
      go_simp
      exact hK' _ _ ⟨_, rfl, hv, Below.refl _ _, hw⟩
    | 1, ho =>
      obtain rfl := Option.some.inj ho
      clear hd ho hv
      refine wpOp_step rfl (fun K' hK' => ?_)
      go_simp
      exact hK' _ _ ⟨_, rfl, rfl, Below.refl _ _, hw⟩
    | 2, ho =>
      obtain rfl := Option.some.inj ho
      clear hd ho hv
      refine wpOp_step rfl (fun K' hK' => ?_)
      go_simp
      exact hK' _ _ ⟨_, rfl, rfl, Below.refl _ _, hw⟩
    | 3, ho =>
      obtain rfl := Option.some.inj ho
      clear hd ho hv
      refine wpOp_step rfl (fun K' hK' => ?_)
      go_simp
      exact hK' _ _ ⟨_, rfl, rfl, Below.refl _ _, hw⟩
    | 4, ho =>
      obtain rfl := Option.some.inj ho
      have h3 : v 3 = Value.int .i64 (k : Int) := hd 3 rfl
      have wq : IntKind.i64.wrap (4 * (k : Int)) = 4 * (k : Int) := IntWalk.i64_in _ (by omega)
      clear hd ho hv
      refine wpOp_step rfl (fun K' hK' => ?_)
      go_simp
      exact hK' _ _ ⟨_, (by simp only [h3, wq]; try rfl), rfl, Below.refl _ _, hw⟩
    | 5, ho =>
      obtain rfl := Option.some.inj ho
      have h2 : v 2 = Value.int .i64 (T : Int) := hd 2 rfl
      have h4 : v 4 = Value.int .i64 (4 * (k : Int)) := hd 4 rfl
      have wq : IntKind.i64.wrap ((T : Int) + 4 * (k : Int)) = ((T : Int) + 4 * (k : Int)) := IntWalk.i64_in _ (by omega)
      clear hd ho hv
      refine wpOp_step rfl (fun K' hK' => ?_)
      go_simp
      exact hK' _ _ ⟨_, (by simp only [h2, h4, wq]; try rfl), rfl, Below.refl _ _, hw⟩
    | 6, ho =>
      obtain rfl := Option.some.inj ho
      have h1 : v 1 = Value.slice (some ⟨g, 0, none⟩) NN cp := hd 1 rfl
      have h5 : v 5 = Value.int .i64 ((T : Int) + 4 * (k : Int)) := hd 5 rfl
      have q0 : (0 : Int) ≤ (T : Int) + 4 * (k : Int) := by omega
      have q1 : (T : Int) + 4 * (k : Int) < (NN : Int) := by omega
      have q2 : ((T : Int) + 4 * (k : Int)).toNat = T + 4 * k := by omega
      clear hd ho hv
      refine wpOp_step rfl (fun K' hK' => ?_)
      go_simp
      exact hK' _ _ ⟨_, (by simp only [h1, h5]; try rfl), rfl, Below.refl _ _, hw⟩
    | 7, ho =>
      obtain rfl := Option.some.inj ho
      have h6 : v 6 = Value.pointer (some ⟨g, T + 4 * k, none⟩) := hd 6 rfl
      have hcc := (HE.out u hw.1).1
      clear hd ho hv
      refine wpOp_step rfl (fun K' hK' => ?_)
      go_simp
      exact hK' _ _ ⟨_, (by simp only [h6]; try rfl), rfl, Below.refl _ _, hw⟩
    | 8, ho =>
      obtain rfl := Option.some.inj ho
      have h7 : v 7 = Value.int .u8 (c0 : Int) := hd 7 rfl
      have wq : IntKind.u32.wrap (c0 : Int) = (c0 : Int) := IntWalk.u32_in _ (by omega)
      clear hd ho hv
      refine wpOp_step rfl (fun K' hK' => ?_)
      go_simp
      exact hK' _ _ ⟨_, (by simp only [h7, wq]; try rfl), rfl, Below.refl _ _, hw⟩
    | 9, ho =>
      obtain rfl := Option.some.inj ho
      have h8 : v 8 = Value.int .u32 (c0 : Int) := hd 8 rfl
      have wq : IntKind.u32.wrap ((c0 : Int) * 16777216) = ((c0 : Int) * 16777216) := IntWalk.u32_in _ (by omega)
      clear hd ho hv
      refine wpOp_step rfl (fun K' hK' => ?_)
      go_simp
      exact hK' _ _ ⟨_, (by simp only [h8, wq]; try rfl), rfl, Below.refl _ _, hw⟩
    | 10, ho =>
      obtain rfl := Option.some.inj ho
      clear hd ho hv
      refine wpOp_step rfl (fun K' hK' => ?_)
      go_simp
      exact hK' _ _ ⟨_, rfl, rfl, Below.refl _ _, hw⟩
    | 11, ho =>
      obtain rfl := Option.some.inj ho
      clear hd ho hv
      refine wpOp_step rfl (fun K' hK' => ?_)
      go_simp
      exact hK' _ _ ⟨_, rfl, rfl, Below.refl _ _, hw⟩
    | 12, ho =>
      obtain rfl := Option.some.inj ho
      clear hd ho hv
      refine wpOp_step rfl (fun K' hK' => ?_)
      go_simp
      exact hK' _ _ ⟨_, rfl, rfl, Below.refl _ _, hw⟩
    | 13, ho =>
      obtain rfl := Option.some.inj ho
      have h12 : v 12 = Value.int .i64 (k : Int) := hd 12 rfl
      have wq : IntKind.i64.wrap (4 * (k : Int)) = 4 * (k : Int) := IntWalk.i64_in _ (by omega)
      clear hd ho hv
      refine wpOp_step rfl (fun K' hK' => ?_)
      go_simp
      exact hK' _ _ ⟨_, (by simp only [h12, wq]; try rfl), rfl, Below.refl _ _, hw⟩
    | 14, ho =>
      obtain rfl := Option.some.inj ho
      have h11 : v 11 = Value.int .i64 (T : Int) := hd 11 rfl
      have h13 : v 13 = Value.int .i64 (4 * (k : Int)) := hd 13 rfl
      have wq : IntKind.i64.wrap ((T : Int) + 4 * (k : Int)) = ((T : Int) + 4 * (k : Int)) := IntWalk.i64_in _ (by omega)
      clear hd ho hv
      refine wpOp_step rfl (fun K' hK' => ?_)
      go_simp
      exact hK' _ _ ⟨_, (by simp only [h11, h13, wq]; try rfl), rfl, Below.refl _ _, hw⟩
    | 15, ho =>
      obtain rfl := Option.some.inj ho
      have h14 : v 14 = Value.int .i64 ((T : Int) + 4 * (k : Int)) := hd 14 rfl
      have wq : IntKind.i64.wrap ((T : Int) + 4 * (k : Int) + 1) = ((T : Int) + 4 * (k : Int) + 1) := IntWalk.i64_in _ (by omega)
      clear hd ho hv
      refine wpOp_step rfl (fun K' hK' => ?_)
      go_simp
      exact hK' _ _ ⟨_, (by simp only [h14, wq]; try rfl), rfl, Below.refl _ _, hw⟩
    | 16, ho =>
      obtain rfl := Option.some.inj ho
      have h10 : v 10 = Value.slice (some ⟨g, 0, none⟩) NN cp := hd 10 rfl
      have h15 : v 15 = Value.int .i64 ((T : Int) + 4 * (k : Int) + 1) := hd 15 rfl
      have q0 : (0 : Int) ≤ (T : Int) + 4 * (k : Int) + 1 := by omega
      have q1 : (T : Int) + 4 * (k : Int) + 1 < (NN : Int) := by omega
      have q2 : ((T : Int) + 4 * (k : Int) + 1).toNat = T + 4 * k + 1 := by omega
      clear hd ho hv
      refine wpOp_step rfl (fun K' hK' => ?_)
      go_simp
      exact hK' _ _ ⟨_, (by simp only [h10, h15]; try rfl), rfl, Below.refl _ _, hw⟩
    | 17, ho =>
      obtain rfl := Option.some.inj ho
      have h16 : v 16 = Value.pointer (some ⟨g, T + 4 * k + 1, none⟩) := hd 16 rfl
      have hcc := (HE.out u hw.1).2.1
      clear hd ho hv
      refine wpOp_step rfl (fun K' hK' => ?_)
      go_simp
      exact hK' _ _ ⟨_, (by simp only [h16]; try rfl), rfl, Below.refl _ _, hw⟩
    | 18, ho =>
      obtain rfl := Option.some.inj ho
      have h17 : v 17 = Value.int .u8 (c1 : Int) := hd 17 rfl
      have wq : IntKind.u32.wrap (c1 : Int) = (c1 : Int) := IntWalk.u32_in _ (by omega)
      clear hd ho hv
      refine wpOp_step rfl (fun K' hK' => ?_)
      go_simp
      exact hK' _ _ ⟨_, (by simp only [h17, wq]; try rfl), rfl, Below.refl _ _, hw⟩
    | 19, ho =>
      obtain rfl := Option.some.inj ho
      have h18 : v 18 = Value.int .u32 (c1 : Int) := hd 18 rfl
      have wq : IntKind.u32.wrap ((c1 : Int) * 65536) = ((c1 : Int) * 65536) := IntWalk.u32_in _ (by omega)
      clear hd ho hv
      refine wpOp_step rfl (fun K' hK' => ?_)
      go_simp
      exact hK' _ _ ⟨_, (by simp only [h18, wq]; try rfl), rfl, Below.refl _ _, hw⟩
    | 20, ho =>
      obtain rfl := Option.some.inj ho
      have h9 : v 9 = Value.int .u32 ((c0 : Int) * 16777216) := hd 9 rfl
      have h19 : v 19 = Value.int .u32 ((c1 : Int) * 65536) := hd 19 rfl
      have wq : IntKind.u32.wrap ((c0 : Int) * 16777216 + (c1 : Int) * 65536) = ((c0 : Int) * 16777216 + (c1 : Int) * 65536) := IntWalk.u32_in _ (by omega)
      clear hd ho hv
      refine wpOp_step rfl (fun K' hK' => ?_)
      go_simp
      exact hK' _ _ ⟨_, (by simp only [h9, h19, wq]; try rfl), rfl, Below.refl _ _, hw⟩
    | 21, ho =>
      obtain rfl := Option.some.inj ho
      clear hd ho hv
      refine wpOp_step rfl (fun K' hK' => ?_)
      go_simp
      exact hK' _ _ ⟨_, rfl, rfl, Below.refl _ _, hw⟩
    | 22, ho =>
      obtain rfl := Option.some.inj ho
      clear hd ho hv
      refine wpOp_step rfl (fun K' hK' => ?_)
      go_simp
      exact hK' _ _ ⟨_, rfl, rfl, Below.refl _ _, hw⟩
    | 23, ho =>
      obtain rfl := Option.some.inj ho
      clear hd ho hv
      refine wpOp_step rfl (fun K' hK' => ?_)
      go_simp
      exact hK' _ _ ⟨_, rfl, rfl, Below.refl _ _, hw⟩
    | 24, ho =>
      obtain rfl := Option.some.inj ho
      have h23 : v 23 = Value.int .i64 (k : Int) := hd 23 rfl
      have wq : IntKind.i64.wrap (4 * (k : Int)) = 4 * (k : Int) := IntWalk.i64_in _ (by omega)
      clear hd ho hv
      refine wpOp_step rfl (fun K' hK' => ?_)
      go_simp
      exact hK' _ _ ⟨_, (by simp only [h23, wq]; try rfl), rfl, Below.refl _ _, hw⟩
    | 25, ho =>
      obtain rfl := Option.some.inj ho
      have h22 : v 22 = Value.int .i64 (T : Int) := hd 22 rfl
      have h24 : v 24 = Value.int .i64 (4 * (k : Int)) := hd 24 rfl
      have wq : IntKind.i64.wrap ((T : Int) + 4 * (k : Int)) = ((T : Int) + 4 * (k : Int)) := IntWalk.i64_in _ (by omega)
      clear hd ho hv
      refine wpOp_step rfl (fun K' hK' => ?_)
      go_simp
      exact hK' _ _ ⟨_, (by simp only [h22, h24, wq]; try rfl), rfl, Below.refl _ _, hw⟩
    | 26, ho =>
      obtain rfl := Option.some.inj ho
      have h25 : v 25 = Value.int .i64 ((T : Int) + 4 * (k : Int)) := hd 25 rfl
      have wq : IntKind.i64.wrap ((T : Int) + 4 * (k : Int) + 2) = ((T : Int) + 4 * (k : Int) + 2) := IntWalk.i64_in _ (by omega)
      clear hd ho hv
      refine wpOp_step rfl (fun K' hK' => ?_)
      go_simp
      exact hK' _ _ ⟨_, (by simp only [h25, wq]; try rfl), rfl, Below.refl _ _, hw⟩
    | 27, ho =>
      obtain rfl := Option.some.inj ho
      have h21 : v 21 = Value.slice (some ⟨g, 0, none⟩) NN cp := hd 21 rfl
      have h26 : v 26 = Value.int .i64 ((T : Int) + 4 * (k : Int) + 2) := hd 26 rfl
      have q0 : (0 : Int) ≤ (T : Int) + 4 * (k : Int) + 2 := by omega
      have q1 : (T : Int) + 4 * (k : Int) + 2 < (NN : Int) := by omega
      have q2 : ((T : Int) + 4 * (k : Int) + 2).toNat = T + 4 * k + 2 := by omega
      clear hd ho hv
      refine wpOp_step rfl (fun K' hK' => ?_)
      go_simp
      exact hK' _ _ ⟨_, (by simp only [h21, h26]; try rfl), rfl, Below.refl _ _, hw⟩
    | 28, ho =>
      obtain rfl := Option.some.inj ho
      have h27 : v 27 = Value.pointer (some ⟨g, T + 4 * k + 2, none⟩) := hd 27 rfl
      have hcc := (HE.out u hw.1).2.2.1
      clear hd ho hv
      refine wpOp_step rfl (fun K' hK' => ?_)
      go_simp
      exact hK' _ _ ⟨_, (by simp only [h27]; try rfl), rfl, Below.refl _ _, hw⟩
    | 29, ho =>
      obtain rfl := Option.some.inj ho
      have h28 : v 28 = Value.int .u8 (c2 : Int) := hd 28 rfl
      have wq : IntKind.u32.wrap (c2 : Int) = (c2 : Int) := IntWalk.u32_in _ (by omega)
      clear hd ho hv
      refine wpOp_step rfl (fun K' hK' => ?_)
      go_simp
      exact hK' _ _ ⟨_, (by simp only [h28, wq]; try rfl), rfl, Below.refl _ _, hw⟩
    | 30, ho =>
      obtain rfl := Option.some.inj ho
      have h29 : v 29 = Value.int .u32 (c2 : Int) := hd 29 rfl
      have wq : IntKind.u32.wrap ((c2 : Int) * 256) = ((c2 : Int) * 256) := IntWalk.u32_in _ (by omega)
      clear hd ho hv
      refine wpOp_step rfl (fun K' hK' => ?_)
      go_simp
      exact hK' _ _ ⟨_, (by simp only [h29, wq]; try rfl), rfl, Below.refl _ _, hw⟩
    | 31, ho =>
      obtain rfl := Option.some.inj ho
      have h20 : v 20 = Value.int .u32 ((c0 : Int) * 16777216 + (c1 : Int) * 65536) := hd 20 rfl
      have h30 : v 30 = Value.int .u32 ((c2 : Int) * 256) := hd 30 rfl
      have wq : IntKind.u32.wrap ((c0 : Int) * 16777216 + (c1 : Int) * 65536 + (c2 : Int) * 256) = ((c0 : Int) * 16777216 + (c1 : Int) * 65536 + (c2 : Int) * 256) := IntWalk.u32_in _ (by omega)
      clear hd ho hv
      refine wpOp_step rfl (fun K' hK' => ?_)
      go_simp
      exact hK' _ _ ⟨_, (by simp only [h20, h30, wq]; try rfl), rfl, Below.refl _ _, hw⟩
    | 32, ho =>
      obtain rfl := Option.some.inj ho
      clear hd ho hv
      refine wpOp_step rfl (fun K' hK' => ?_)
      go_simp
      exact hK' _ _ ⟨_, rfl, rfl, Below.refl _ _, hw⟩
    | 33, ho =>
      obtain rfl := Option.some.inj ho
      clear hd ho hv
      refine wpOp_step rfl (fun K' hK' => ?_)
      go_simp
      exact hK' _ _ ⟨_, rfl, rfl, Below.refl _ _, hw⟩
    | 34, ho =>
      obtain rfl := Option.some.inj ho
      clear hd ho hv
      refine wpOp_step rfl (fun K' hK' => ?_)
      go_simp
      exact hK' _ _ ⟨_, rfl, rfl, Below.refl _ _, hw⟩
    | 35, ho =>
      obtain rfl := Option.some.inj ho
      have h34 : v 34 = Value.int .i64 (k : Int) := hd 34 rfl
      have wq : IntKind.i64.wrap (4 * (k : Int)) = 4 * (k : Int) := IntWalk.i64_in _ (by omega)
      clear hd ho hv
      refine wpOp_step rfl (fun K' hK' => ?_)
      go_simp
      exact hK' _ _ ⟨_, (by simp only [h34, wq]; try rfl), rfl, Below.refl _ _, hw⟩
    | 36, ho =>
      obtain rfl := Option.some.inj ho
      have h33 : v 33 = Value.int .i64 (T : Int) := hd 33 rfl
      have h35 : v 35 = Value.int .i64 (4 * (k : Int)) := hd 35 rfl
      have wq : IntKind.i64.wrap ((T : Int) + 4 * (k : Int)) = ((T : Int) + 4 * (k : Int)) := IntWalk.i64_in _ (by omega)
      clear hd ho hv
      refine wpOp_step rfl (fun K' hK' => ?_)
      go_simp
      exact hK' _ _ ⟨_, (by simp only [h33, h35, wq]; try rfl), rfl, Below.refl _ _, hw⟩
    | 37, ho =>
      obtain rfl := Option.some.inj ho
      have h36 : v 36 = Value.int .i64 ((T : Int) + 4 * (k : Int)) := hd 36 rfl
      have wq : IntKind.i64.wrap ((T : Int) + 4 * (k : Int) + 3) = ((T : Int) + 4 * (k : Int) + 3) := IntWalk.i64_in _ (by omega)
      clear hd ho hv
      refine wpOp_step rfl (fun K' hK' => ?_)
      go_simp
      exact hK' _ _ ⟨_, (by simp only [h36, wq]; try rfl), rfl, Below.refl _ _, hw⟩
    | 38, ho =>
      obtain rfl := Option.some.inj ho
      have h32 : v 32 = Value.slice (some ⟨g, 0, none⟩) NN cp := hd 32 rfl
      have h37 : v 37 = Value.int .i64 ((T : Int) + 4 * (k : Int) + 3) := hd 37 rfl
      have q0 : (0 : Int) ≤ (T : Int) + 4 * (k : Int) + 3 := by omega
      have q1 : (T : Int) + 4 * (k : Int) + 3 < (NN : Int) := by omega
      have q2 : ((T : Int) + 4 * (k : Int) + 3).toNat = T + 4 * k + 3 := by omega
      clear hd ho hv
      refine wpOp_step rfl (fun K' hK' => ?_)
      go_simp
      exact hK' _ _ ⟨_, (by simp only [h32, h37]; try rfl), rfl, Below.refl _ _, hw⟩
    | 39, ho =>
      obtain rfl := Option.some.inj ho
      have h38 : v 38 = Value.pointer (some ⟨g, T + 4 * k + 3, none⟩) := hd 38 rfl
      have hcc := (HE.out u hw.1).2.2.2
      clear hd ho hv
      refine wpOp_step rfl (fun K' hK' => ?_)
      go_simp
      exact hK' _ _ ⟨_, (by simp only [h38]; try rfl), rfl, Below.refl _ _, hw⟩
    | 40, ho =>
      obtain rfl := Option.some.inj ho
      have h39 : v 39 = Value.int .u8 (c3 : Int) := hd 39 rfl
      have wq : IntKind.u32.wrap (c3 : Int) = (c3 : Int) := IntWalk.u32_in _ (by omega)
      clear hd ho hv
      refine wpOp_step rfl (fun K' hK' => ?_)
      go_simp
      exact hK' _ _ ⟨_, (by simp only [h39, wq]; try rfl), rfl, Below.refl _ _, hw⟩
    | 41, ho =>
      obtain rfl := Option.some.inj ho
      have h31 : v 31 = Value.int .u32 ((c0 : Int) * 16777216 + (c1 : Int) * 65536 + (c2 : Int) * 256) := hd 31 rfl
      have h40 : v 40 = Value.int .u32 (c3 : Int) := hd 40 rfl
      have wq : IntKind.u32.wrap ((c0 : Int) * 16777216 + (c1 : Int) * 65536 + (c2 : Int) * 256 + (c3 : Int)) = ((c0 : Int) * 16777216 + (c1 : Int) * 65536 + (c2 : Int) * 256 + (c3 : Int)) := IntWalk.u32_in _ (by omega)
      clear hd ho hv
      refine wpOp_step rfl (fun K' hK' => ?_)
      go_simp
      exact hK' _ _ ⟨_, (by simp only [h31, h40, wq]; try rfl), rfl, Below.refl _ _, hw⟩
    | 42, ho =>
      obtain rfl := Option.some.inj ho
      have h41 : v 41 = Value.int .u32 ((c0 : Int) * 16777216 + (c1 : Int) * 65536 + (c2 : Int) * 256 + (c3 : Int)) := hd 41 rfl
      clear hd ho hv
      refine wpOp_step rfl (fun K' hK' => ?_)
      go_simp
      exact hK' _ _ ⟨_, (by simp only [h41]; try rfl), isOne_new u _ _, (Below.refl _ _).alloc (Nat.le_refl _) _, hw.1.alloc hw.1.size _, hw.2.alloc _⟩
    | i + 43, ho => exact absurd hl (by simp)
  case mid =>
    intro o ho v u hw hd
    obtain rfl := Option.some.inj ho
    have h0 : v 0 = wv := hd 0 (by decide)
    have h42 : IsOne u (v 42) (Value.int .u32 ((c0 : Int) * 16777216 + (c1 : Int) * 65536 + (c2 : Int) * 256 + (c3 : Int))) := hd 42 (by decide)
    clear hd ho
    obtain ⟨ad, h42, hnews⟩ := h42.news
    refine wpOp_step rfl (fun K' hK' => ?_)
    refine step_append_own rfl _ _ 52 rfl w6.heap.size 53 i8 (.int .u32 0) 1 4 Tryd.underlying52 hi hz0 hz1 hz2 rfl (by decide) wv k xs (by rw [← h0]; rfl) hw.2 ad 1 1 [Value.int .u32 ((c0 : Int) * 16777216 + (c1 : Int) * 65536 + (c2 : Int) * 256 + (c3 : Int))] (by rw [← h42]; rfl) rfl hnews (by simp [Value.oneCell']) (by unfold maxLen; omega) (by omega) hw.1.size ?_
    intro v' w' ho1 hgr
    exact hK' _ _ ⟨_, rfl, ho1, hw.1.grown hgr hw.1.size (fun j hj => (hw.2.lt j hj).1)⟩
  case last =>
    intro o ho v u hm
    obtain rfl := Option.some.inj ho
    refine wpOp_step rfl (fun K' hK' => ?_)
    go_simp
    exact hK' _ _ ⟨_, rfl, hm⟩
  case fin =>
    intro v u hm
    exact HFIN.out v u hm.1 hm.2

end Go.Proofs.YtpdionmecflibaaDoor

/-
  Region 29 of the document's Sum256: a word out of four earlier ones, behind the others.
-/
namespace Go.Proofs.YtpdionmecflibaaDoor
open Go.RowKit

set_option maxHeartbeats 2000000 in
set_option maxRecDepth 1000000 in
theorem region29 {x0 x1 x2 x3 x4 x5 x6 x7 x8 x9 x10 x11 x16 x17 x18 x19 x20 x21 x22 x23 x24 x25 x26 x27 x28 x29 x30 x31 x32 x33 x34 x35 x36 x37 x38 x39 x40 x41 x42 x43 x44 x45 x46 x47 x48 x49 x50 x51 x52 x53 x54 x55 x56 x57 x58 x59 x60 x61 x62 x63 x64 x65 x66 x67 x68 x69 x70 x71 x72 x73 x74 x75 x76 x77 x78 x79 x80 x81 x82 x83 x84 x85 x86 x87 x88 x89 x90 x91 x92 x93 x94 x95 x96 x97 x98 x99 x100 x101 x102 x103 x104 x105 x106 x107 x108 x109 x110 x111 x112 x113 x114 x115 x116 x117 x118 x119 x120 x121 x122 x123 x124 x125 x126 x127 x128 x129 x130 x131 x132 x133 x134 x135 x136 x137 x138 x139 x140 x141 x142 x143 x144 x145 x146 x147 x148 x149 x150 x151 x152 x153 x154 x155 x156 x157 x158 x159 x160 x161 x162 x163 x164 x165 x166 x167 x168 x169 x170 x171 x172 x173 x174 x175 x176 x177 x178 x179 x180 x181 x182 x183 x184 x185 x186 x187 x188 x189 x190 x191 x192 x193 x194 x195 x196 x197 x198 x199 x200 x201 x202 x203 x204 x205 x206 x207 x208 x209 x210 x211 x212 x213 x214 x215 x216 x217 x218 x219 x220 x221 x222 x223 x224 x225 x226 x227 x228 x229 x230 x231 x232 : Value} (gw cw k m p0 p1 p9 p14 y7 y18 yp y z17 z19 zp z a1 a2 a3 : Nat) (xs : List Value) (w6 w : World) (Q : Exit → Act → World → Prop)
    (hk : k = m + 16) (hk64 : k < 64) (hp1 : p1 < 4294967296) (hp14 : p14 < 4294967296)
    (R7 : ∀ u : World, Calls Tryd.prog 23 #[.int .u32 (p1 : Int), .int .u64 7] u fun e w' => e = .returned (.int .u32 (y7 : Int)) ∧ u = w') (R18 : ∀ u : World, Calls Tryd.prog 23 #[.int .u32 (p1 : Int), .int .u64 18] u fun e w' => e = .returned (.int .u32 (y18 : Int)) ∧ u = w') (R17 : ∀ u : World, Calls Tryd.prog 23 #[.int .u32 (p14 : Int), .int .u64 17] u fun e w' => e = .returned (.int .u32 (z17 : Int)) ∧ u = w') (R19 : ∀ u : World, Calls Tryd.prog 23 #[.int .u32 (p14 : Int), .int .u64 19] u fun e w' => e = .returned (.int .u32 (z19 : Int)) ∧ u = w')
    (b10 : bits .xor .u32 (y7 : Int) (y18 : Int) = (yp : Int)) (b13 : bits .xor .u32 (yp : Int) ((p1 : Int) / 8) = (y : Int)) (b25 : bits .xor .u32 (z17 : Int) (z19 : Int) = (zp : Int)) (b28 : bits .xor .u32 (zp : Int) ((p14 : Int) / 1024) = (z : Int))
    (b14 : ((p0 : Int) + (y : Int)) % 4294967296 = (a1 : Int)) (b20 : ((a1 : Int) + (p9 : Int)) % 4294967296 = (a2 : Int)) (b29 : ((a2 : Int) + (z : Int)) % 4294967296 = (a3 : Int))
    (x0' : xs[m]? = some (.int .u32 (p0 : Int))) (x9' : xs[m + 9]? = some (.int .u32 (p9 : Int)))
    (hown : w.ownsRow w6.heap.size 53 1 (Value.slice (some ⟨gw, 0, none⟩) k cw) k xs) (hb : Below w6.heap.size w6 w)
    (hfin : ∀ (v : Nat → Value) (u : World), u.ownsRow w6.heap.size 53 1 (v 32) (k + 1) (xs ++ [Value.int .u32 (a3 : Int)]) → Below w6.heap.size w6 u → Q .normal ⟨#[x0, x1, x2, x3, x4, x5, x6, x7, x8, x9, x10, x11, v 32, Value.int .i64 (k : Int), Value.int .u32 (p1 : Int), Value.int .u32 (p14 : Int), x16, x17, x18, x19, x20, x21, x22, x23, x24, x25, x26, x27, x28, x29, x30, x31, x32, x33, x34, x35, x36, x37, x38, x39, x40, x41, x42, x43, x44, x45, x46, x47, x48, x49, x50, x51, x52, x53, x54, x55, x56, x57, x58, x59, x60, x61, x62, x63, x64, x65, x66, x67, x68, x69, x70, x71, x72, x73, x74, x75, x76, x77, x78, x79, x80, x81, x82, x83, x84, x85, x86, x87, x88, x89, x90, x91, x92, x93, x94, x95, x96, x97, x98, x99, x100, x101, x102, x103, x104, x105, x106, x107, x108, x109, x110, x111, x112, x113, x114, x115, x116, x117, x118, x119, x120, x121, x122, x123, x124, x125, x126, x127, x128, x129, x130, x131, x132, x133, x134, x135, x136, x137, v 0, v 1, v 2, v 3, v 4, v 5, v 6, v 7, v 8, v 9, v 10, v 11, v 12, v 13, v 14, v 15, v 16, v 17, v 18, v 19, v 20, v 21, v 22, v 23, v 24, v 25, v 26, v 27, v 28, v 29, v 30, v 31, x170, x171, x172, x173, x174, x175, x176, x177, x178, x179, x180, x181, x182, x183, x184, x185, x186, x187, x188, x189, x190, x191, x192, x193, x194, x195, x196, x197, x198, x199, x200, x201, x202, x203, x204, x205, x206, x207, x208, x209, x210, x211, x212, x213, x214, x215, x216, x217, x218, x219, x220, x221, x222, x223, x224, x225, x226, x227, x228, x229, x230, x231, x232], []⟩ u) :
    Code.wp Tryd.prog (rreg 29) Q ⟨#[x0, x1, x2, x3, x4, x5, x6, x7, x8, x9, x10, x11, Value.slice (some ⟨gw, 0, none⟩) k cw, Value.int .i64 (k : Int), Value.int .u32 (p1 : Int), Value.int .u32 (p14 : Int), x16, x17, x18, x19, x20, x21, x22, x23, x24, x25, x26, x27, x28, x29, x30, x31, x32, x33, x34, x35, x36, x37, x38, x39, x40, x41, x42, x43, x44, x45, x46, x47, x48, x49, x50, x51, x52, x53, x54, x55, x56, x57, x58, x59, x60, x61, x62, x63, x64, x65, x66, x67, x68, x69, x70, x71, x72, x73, x74, x75, x76, x77, x78, x79, x80, x81, x82, x83, x84, x85, x86, x87, x88, x89, x90, x91, x92, x93, x94, x95, x96, x97, x98, x99, x100, x101, x102, x103, x104, x105, x106, x107, x108, x109, x110, x111, x112, x113, x114, x115, x116, x117, x118, x119, x120, x121, x122, x123, x124, x125, x126, x127, x128, x129, x130, x131, x132, x133, x134, x135, x136, x137, x138, x139, x140, x141, x142, x143, x144, x145, x146, x147, x148, x149, x150, x151, x152, x153, x154, x155, x156, x157, x158, x159, x160, x161, x162, x163, x164, x165, x166, x167, x168, x169, x170, x171, x172, x173, x174, x175, x176, x177, x178, x179, x180, x181, x182, x183, x184, x185, x186, x187, x188, x189, x190, x191, x192, x193, x194, x195, x196, x197, x198, x199, x200, x201, x202, x203, x204, x205, x206, x207, x208, x209, x210, x211, x212, x213, x214, x215, x216, x217, x218, x219, x220, x221, x222, x223, x224, x225, x226, x227, x228, x229, x230, x231, x232], []⟩ w := by
  obtain ⟨i8, hi, hz0, hz1, hz2⟩ := info_parts Tryd.infoU32
  have HFIN := Lib.hid hfin
  have HC := Lib.hid (show ∀ u : World, u.ownsRow w6.heap.size 53 1 (Value.slice (some ⟨gw, 0, none⟩) k cw) k xs → u.cell? ⟨gw, m, none⟩ = some (.int .u32 (p0 : Int)) ∧ u.cell? ⟨gw, m + 9, none⟩ = some (.int .u32 (p9 : Int)) from fun u hu =>
    ⟨by rw [hu.cellAt m (by omega)]; exact x0', by rw [hu.cellAt (m + 9) (by omega)]; exact x9'⟩)
  have HOWN := Lib.hid hown
  have HB := Lib.hid hb
  have W14 := Lib.hid (show IntKind.u32.wrap ((p0 : Int) + (y : Int)) = (a1 : Int) by rw [IntKind.wrap_u32]; exact b14)
  have W20 := Lib.hid (show IntKind.u32.wrap ((a1 : Int) + (p9 : Int)) = (a2 : Int) by rw [IntKind.wrap_u32]; exact b20)
  have W29 := Lib.hid (show IntKind.u32.wrap ((a2 : Int) + (z : Int)) = (a3 : Int) by rw [IntKind.wrap_u32]; exact b29)
  have B10 := Lib.hid b10
  have B13 := Lib.hid b13
  have B25 := Lib.hid b25
  have B28 := Lib.hid b28
  have S7 := Lib.hid R7
  have S18 := Lib.hid R18
  have S17 := Lib.hid R17
  have S19 := Lib.hid R19
  have HK := Lib.hid hk
  clear hk b10 b13 b25 b28 b14 b20 b29 R7 R18 R17 R19 x0' x9' hown hb hfin
  conv => arg 2; whnf
  refine wp_region_last3 (by kernel_rfl) (fun v => ⟨#[x0, x1, x2, x3, x4, x5, x6, x7, x8, x9, x10, x11, v 32, Value.int .i64 (k : Int), Value.int .u32 (p1 : Int), Value.int .u32 (p14 : Int), x16, x17, x18, x19, x20, x21, x22, x23, x24, x25, x26, x27, x28, x29, x30, x31, x32, x33, x34, x35, x36, x37, x38, x39, x40, x41, x42, x43, x44, x45, x46, x47, x48, x49, x50, x51, x52, x53, x54, x55, x56, x57, x58, x59, x60, x61, x62, x63, x64, x65, x66, x67, x68, x69, x70, x71, x72, x73, x74, x75, x76, x77, x78, x79, x80, x81, x82, x83, x84, x85, x86, x87, x88, x89, x90, x91, x92, x93, x94, x95, x96, x97, x98, x99, x100, x101, x102, x103, x104, x105, x106, x107, x108, x109, x110, x111, x112, x113, x114, x115, x116, x117, x118, x119, x120, x121, x122, x123, x124, x125, x126, x127, x128, x129, x130, x131, x132, x133, x134, x135, x136, x137, v 0, v 1, v 2, v 3, v 4, v 5, v 6, v 7, v 8, v 9, v 10, v 11, v 12, v 13, v 14, v 15, v 16, v 17, v 18, v 19, v 20, v 21, v 22, v 23, v 24, v 25, v 26, v 27, v 28, v 29, v 30, v 31, x170, x171, x172, x173, x174, x175, x176, x177, x178, x179, x180, x181, x182, x183, x184, x185, x186, x187, x188, x189, x190, x191, x192, x193, x194, x195, x196, x197, x198, x199, x200, x201, x202, x203, x204, x205, x206, x207, x208, x209, x210, x211, x212, x213, x214, x215, x216, x217, x218, x219, x220, x221, x222, x223, x224, x225, x226, x227, x228, x229, x230, x231, x232], []⟩) (OneAt [.inl (Value.slice (some ⟨gw, 0, none⟩) k cw), .inl (Value.slice (some ⟨gw, 0, none⟩) k cw), .inl (Value.int .i64 (k : Int)), .inl (Value.int .i64 ((k : Int) - 16)), .inl (Value.pointer (some ⟨gw, m, none⟩)), .inl (Value.int .u32 (p0 : Int)), .inl (Value.int .u32 (p1 : Int)), .inl (Value.int .u32 (y7 : Int)), .inl (Value.int .u32 (p1 : Int)), .inl (Value.int .u32 (y18 : Int)), .inl (Value.int .u32 (yp : Int)), .inl (Value.int .u32 (p1 : Int)), .inl (Value.int .u32 ((p1 : Int) / 8)), .inl (Value.int .u32 (y : Int)), .inl (Value.int .u32 (a1 : Int)), .inl (Value.slice (some ⟨gw, 0, none⟩) k cw), .inl (Value.int .i64 (k : Int)), .inl (Value.int .i64 ((k : Int) - 7)), .inl (Value.pointer (some ⟨gw, m + 9, none⟩)), .inl (Value.int .u32 (p9 : Int)), .inl (Value.int .u32 (a2 : Int)), .inl (Value.int .u32 (p14 : Int)), .inl (Value.int .u32 (z17 : Int)), .inl (Value.int .u32 (p14 : Int)), .inl (Value.int .u32 (z19 : Int)), .inl (Value.int .u32 (zp : Int)), .inl (Value.int .u32 (p14 : Int)), .inl (Value.int .u32 ((p14 : Int) / 1024)), .inl (Value.int .u32 (z : Int)), .inl (Value.int .u32 (a3 : Int)), .inr (Value.int .u32 (a3 : Int))]) (fun u => Below w6.heap.size w6 u ∧ u.ownsRow w6.heap.size 53 1 (Value.slice (some ⟨gw, 0, none⟩) k cw) k xs) (fun x u => u.ownsRow w6.heap.size 53 1 x (k + 1) (xs ++ [Value.int .u32 (a3 : Int)]) ∧ Below w6.heap.size w6 u) (fun x u => u.ownsRow w6.heap.size 53 1 x (k + 1) (xs ++ [Value.int .u32 (a3 : Int)]) ∧ Below w6.heap.size w6 u)
    (fun i => ([x138, x139, x140, x141, x142, x143, x144, x145, x146, x147, x148, x149, x150, x151, x152, x153, x154, x155, x156, x157, x158, x159, x160, x161, x162, x163, x164, x165, x166, x167, x168, x169, Value.slice (some ⟨gw, 0, none⟩) k cw] : List Value).getD i undef) w (oneAt_mono _) (by kernel_rfl) (by kernel_rfl) (by kernel_rfl) (by decide) ?hput ?step ?mid ?last ⟨HB.out.drew, HOWN.out.drew⟩ ?fin
  case hput =>
    intro i o ho v x
    match i, ho with
    | 0, ho => obtain rfl := Option.some.inj ho; rfl
    | 1, ho => obtain rfl := Option.some.inj ho; rfl
    | 2, ho => obtain rfl := Option.some.inj ho; rfl
    | 3, ho => obtain rfl := Option.some.inj ho; rfl
    | 4, ho => obtain rfl := Option.some.inj ho; rfl
    | 5, ho => obtain rfl := Option.some.inj ho; rfl
    | 6, ho => obtain rfl := Option.some.inj ho; rfl
    | 7, ho => obtain rfl := Option.some.inj ho; rfl
    | 8, ho => obtain rfl := Option.some.inj ho; rfl
    | 9, ho => obtain rfl := Option.some.inj ho; rfl
    | 10, ho => obtain rfl := Option.some.inj ho; rfl
    | 11, ho => obtain rfl := Option.some.inj ho; rfl
    | 12, ho => obtain rfl := Option.some.inj ho; rfl
    | 13, ho => obtain rfl := Option.some.inj ho; rfl
    | 14, ho => obtain rfl := Option.some.inj ho; rfl
    | 15, ho => obtain rfl := Option.some.inj ho; rfl
    | 16, ho => obtain rfl := Option.some.inj ho; rfl
    | 17, ho => obtain rfl := Option.some.inj ho; rfl
    | 18, ho => obtain rfl := Option.some.inj ho; rfl
    | 19, ho => obtain rfl := Option.some.inj ho; rfl
    | 20, ho => obtain rfl := Option.some.inj ho; rfl
    | 21, ho => obtain rfl := Option.some.inj ho; rfl
    | 22, ho => obtain rfl := Option.some.inj ho; rfl
    | 23, ho => obtain rfl := Option.some.inj ho; rfl
    | 24, ho => obtain rfl := Option.some.inj ho; rfl
    | 25, ho => obtain rfl := Option.some.inj ho; rfl
    | 26, ho => obtain rfl := Option.some.inj ho; rfl
    | 27, ho => obtain rfl := Option.some.inj ho; rfl
    | 28, ho => obtain rfl := Option.some.inj ho; rfl
    | 29, ho => obtain rfl := Option.some.inj ho; rfl
    | 30, ho => obtain rfl := Option.some.inj ho; rfl
    | 31, ho => obtain rfl := Option.some.inj ho; rfl
    | 32, ho => obtain rfl := Option.some.inj ho; rfl
    | i + 33, ho => cases ho
  case step =>
    intro i o ho hl v u hv hw hd
    match i, ho with
    | 0, ho =>
      obtain rfl := Option.some.inj ho
      clear hd ho
      refine wpOp_step rfl (fun K' hK' => ?_)
      go_simp
      exact hK' _ _ ⟨_, rfl, hv, Below.refl _ _, hw⟩
    | 1, ho =>
      obtain rfl := Option.some.inj ho
      clear hd ho
      refine wpOp_step rfl (fun K' hK' => ?_)
      go_simp
      exact hK' _ _ ⟨_, rfl, hv, Below.refl _ _, hw⟩
    | 2, ho =>
      obtain rfl := Option.some.inj ho
      clear hd ho hv
      refine wpOp_step rfl (fun K' hK' => ?_)
      go_simp
      exact hK' _ _ ⟨_, rfl, rfl, Below.refl _ _, hw⟩
    | 3, ho =>
      obtain rfl := Option.some.inj ho
      have h2 : v 2 = Value.int .i64 (k : Int) := hd 2 rfl
      have wq : IntKind.i64.wrap ((k : Int) - 16) = (k : Int) - 16 := IntWalk.i64_in _ (by omega)
      clear hd ho hv
      refine wpOp_step rfl (fun K' hK' => ?_)
      go_simp
      exact hK' _ _ ⟨_, (by simp only [h2, wq]; try rfl), rfl, Below.refl _ _, hw⟩
    | 4, ho =>
      obtain rfl := Option.some.inj ho
      have h1 : v 1 = Value.slice (some ⟨gw, 0, none⟩) k cw := hd 1 rfl
      have h3 : v 3 = Value.int .i64 ((k : Int) - 16) := hd 3 rfl
      have hkk := HK.out
      have q0 : (0 : Int) ≤ (k : Int) - 16 := by omega
      have q1 : (k : Int) - 16 < (k : Int) := by omega
      have q2 : ((k : Int) - 16).toNat = m := by omega
      have q3 : k - 16 = m := by omega
      have q4 : (16 : Int) ≤ (k : Int) := by omega
      clear hkk
      clear hd ho hv
      refine wpOp_step rfl (fun K' hK' => ?_)
      go_simp
      exact hK' _ _ ⟨_, (by simp only [h1, h3]; try rfl), rfl, Below.refl _ _, hw⟩
    | 5, ho =>
      obtain rfl := Option.some.inj ho
      have h4 : v 4 = Value.pointer (some ⟨gw, m, none⟩) := hd 4 rfl
      have hcc := (HC.out u hw.2).1
      clear hd ho hv
      refine wpOp_step rfl (fun K' hK' => ?_)
      go_simp
      exact hK' _ _ ⟨_, (by simp only [h4]; try rfl), rfl, Below.refl _ _, hw⟩
    | 6, ho =>
      obtain rfl := Option.some.inj ho
      clear hd ho hv
      refine wpOp_step rfl (fun K' hK' => ?_)
      go_simp
      exact hK' _ _ ⟨_, rfl, rfl, Below.refl _ _, hw⟩
    | 7, ho =>
      obtain rfl := Option.some.inj ho
      have h6 : v 6 = Value.int .u32 (p1 : Int) := hd 6 rfl
      clear hd ho hv
      refine wpOp_step rfl (fun K' hK' => ?_)
      go_simp
      refine (S7.out u).mono ?_
      rintro e w' ⟨rfl, rfl⟩
      exact hK' _ _ ⟨_, (by simp only [h6]; try rfl), rfl, Below.refl _ _, hw⟩
    | 8, ho =>
      obtain rfl := Option.some.inj ho
      clear hd ho hv
      refine wpOp_step rfl (fun K' hK' => ?_)
      go_simp
      exact hK' _ _ ⟨_, rfl, rfl, Below.refl _ _, hw⟩
    | 9, ho =>
      obtain rfl := Option.some.inj ho
      have h8 : v 8 = Value.int .u32 (p1 : Int) := hd 8 rfl
      clear hd ho hv
      refine wpOp_step rfl (fun K' hK' => ?_)
      go_simp
      refine (S18.out u).mono ?_
      rintro e w' ⟨rfl, rfl⟩
      exact hK' _ _ ⟨_, (by simp only [h8]; try rfl), rfl, Below.refl _ _, hw⟩
    | 10, ho =>
      obtain rfl := Option.some.inj ho
      have h7 : v 7 = Value.int .u32 (y7 : Int) := hd 7 rfl
      have h9 : v 9 = Value.int .u32 (y18 : Int) := hd 9 rfl
      have wq := B10.out
      clear hd ho hv
      refine wpOp_step rfl (fun K' hK' => ?_)
      go_simp
      exact hK' _ _ ⟨_, (by simp only [h7, h9, wq]; try rfl), rfl, Below.refl _ _, hw⟩
    | 11, ho =>
      obtain rfl := Option.some.inj ho
      clear hd ho hv
      refine wpOp_step rfl (fun K' hK' => ?_)
      go_simp
      exact hK' _ _ ⟨_, rfl, rfl, Below.refl _ _, hw⟩
    | 12, ho =>
      obtain rfl := Option.some.inj ho
      have h11 : v 11 = Value.int .u32 (p1 : Int) := hd 11 rfl
      have wq : IntKind.u32.wrap ((p1 : Int).tdiv 8) = (p1 : Int) / 8 := IntWalk.u32_quo _ _ (by omega)
      have wq2 : IntKind.u32.wrap ((p1 : Int) / 8) = (p1 : Int) / 8 := IntWalk.u32_in _ (by omega)
      clear hd ho hv
      refine wpOp_step rfl (fun K' hK' => ?_)
      go_simp
      exact hK' _ _ ⟨_, (by simp only [h11, wq, wq2]; try rfl), rfl, Below.refl _ _, hw⟩
    | 13, ho =>
      obtain rfl := Option.some.inj ho
      have h10 : v 10 = Value.int .u32 (yp : Int) := hd 10 rfl
      have h12 : v 12 = Value.int .u32 ((p1 : Int) / 8) := hd 12 rfl
      have wq := B13.out
      clear hd ho hv
      refine wpOp_step rfl (fun K' hK' => ?_)
      go_simp
      exact hK' _ _ ⟨_, (by simp only [h10, h12, wq]; try rfl), rfl, Below.refl _ _, hw⟩
    | 14, ho =>
      obtain rfl := Option.some.inj ho
      have h5 : v 5 = Value.int .u32 (p0 : Int) := hd 5 rfl
      have h13 : v 13 = Value.int .u32 (y : Int) := hd 13 rfl
      have wq := W14.out
      clear hd ho hv
      refine wpOp_step rfl (fun K' hK' => ?_)
      go_simp
      exact hK' _ _ ⟨_, (by simp only [h5, h13, wq]; try rfl), rfl, Below.refl _ _, hw⟩
    | 15, ho =>
      obtain rfl := Option.some.inj ho
      clear hd ho
      refine wpOp_step rfl (fun K' hK' => ?_)
      go_simp
      exact hK' _ _ ⟨_, rfl, hv, Below.refl _ _, hw⟩
    | 16, ho =>
      obtain rfl := Option.some.inj ho
      clear hd ho hv
      refine wpOp_step rfl (fun K' hK' => ?_)
      go_simp
      exact hK' _ _ ⟨_, rfl, rfl, Below.refl _ _, hw⟩
    | 17, ho =>
      obtain rfl := Option.some.inj ho
      have h16 : v 16 = Value.int .i64 (k : Int) := hd 16 rfl
      have wq : IntKind.i64.wrap ((k : Int) - 7) = (k : Int) - 7 := IntWalk.i64_in _ (by omega)
      clear hd ho hv
      refine wpOp_step rfl (fun K' hK' => ?_)
      go_simp
      exact hK' _ _ ⟨_, (by simp only [h16, wq]; try rfl), rfl, Below.refl _ _, hw⟩
    | 18, ho =>
      obtain rfl := Option.some.inj ho
      have h15 : v 15 = Value.slice (some ⟨gw, 0, none⟩) k cw := hd 15 rfl
      have h17 : v 17 = Value.int .i64 ((k : Int) - 7) := hd 17 rfl
      have hkk := HK.out
      have q0 : (0 : Int) ≤ (k : Int) - 7 := by omega
      have q1 : (k : Int) - 7 < (k : Int) := by omega
      have q2 : ((k : Int) - 7).toNat = m + 9 := by omega
      have q3 : k - 7 = m + 9 := by omega
      have q4 : (7 : Int) ≤ (k : Int) := by omega
      clear hkk
      clear hd ho hv
      refine wpOp_step rfl (fun K' hK' => ?_)
      go_simp
      exact hK' _ _ ⟨_, (by simp only [h15, h17]; try rfl), rfl, Below.refl _ _, hw⟩
    | 19, ho =>
      obtain rfl := Option.some.inj ho
      have h18 : v 18 = Value.pointer (some ⟨gw, m + 9, none⟩) := hd 18 rfl
      have hcc := (HC.out u hw.2).2
      clear hd ho hv
      refine wpOp_step rfl (fun K' hK' => ?_)
      go_simp
      exact hK' _ _ ⟨_, (by simp only [h18]; try rfl), rfl, Below.refl _ _, hw⟩
    | 20, ho =>
      obtain rfl := Option.some.inj ho
      have h14 : v 14 = Value.int .u32 (a1 : Int) := hd 14 rfl
      have h19 : v 19 = Value.int .u32 (p9 : Int) := hd 19 rfl
      have wq := W20.out
      clear hd ho hv
      refine wpOp_step rfl (fun K' hK' => ?_)
      go_simp
      exact hK' _ _ ⟨_, (by simp only [h14, h19, wq]; try rfl), rfl, Below.refl _ _, hw⟩
    | 21, ho =>
      obtain rfl := Option.some.inj ho
      clear hd ho hv
      refine wpOp_step rfl (fun K' hK' => ?_)
      go_simp
      exact hK' _ _ ⟨_, rfl, rfl, Below.refl _ _, hw⟩
    | 22, ho =>
      obtain rfl := Option.some.inj ho
      have h21 : v 21 = Value.int .u32 (p14 : Int) := hd 21 rfl
      clear hd ho hv
      refine wpOp_step rfl (fun K' hK' => ?_)
      go_simp
      refine (S17.out u).mono ?_
      rintro e w' ⟨rfl, rfl⟩
      exact hK' _ _ ⟨_, (by simp only [h21]; try rfl), rfl, Below.refl _ _, hw⟩
    | 23, ho =>
      obtain rfl := Option.some.inj ho
      clear hd ho hv
      refine wpOp_step rfl (fun K' hK' => ?_)
      go_simp
      exact hK' _ _ ⟨_, rfl, rfl, Below.refl _ _, hw⟩
    | 24, ho =>
      obtain rfl := Option.some.inj ho
      have h23 : v 23 = Value.int .u32 (p14 : Int) := hd 23 rfl
      clear hd ho hv
      refine wpOp_step rfl (fun K' hK' => ?_)
      go_simp
      refine (S19.out u).mono ?_
      rintro e w' ⟨rfl, rfl⟩
      exact hK' _ _ ⟨_, (by simp only [h23]; try rfl), rfl, Below.refl _ _, hw⟩
    | 25, ho =>
      obtain rfl := Option.some.inj ho
      have h22 : v 22 = Value.int .u32 (z17 : Int) := hd 22 rfl
      have h24 : v 24 = Value.int .u32 (z19 : Int) := hd 24 rfl
      have wq := B25.out
      clear hd ho hv
      refine wpOp_step rfl (fun K' hK' => ?_)
      go_simp
      exact hK' _ _ ⟨_, (by simp only [h22, h24, wq]; try rfl), rfl, Below.refl _ _, hw⟩
    | 26, ho =>
      obtain rfl := Option.some.inj ho
      clear hd ho hv
      refine wpOp_step rfl (fun K' hK' => ?_)
      go_simp
      exact hK' _ _ ⟨_, rfl, rfl, Below.refl _ _, hw⟩
    | 27, ho =>
      obtain rfl := Option.some.inj ho
      have h26 : v 26 = Value.int .u32 (p14 : Int) := hd 26 rfl
      have wq : IntKind.u32.wrap ((p14 : Int).tdiv 1024) = (p14 : Int) / 1024 := IntWalk.u32_quo _ _ (by omega)
      have wq2 : IntKind.u32.wrap ((p14 : Int) / 1024) = (p14 : Int) / 1024 := IntWalk.u32_in _ (by omega)
      clear hd ho hv
      refine wpOp_step rfl (fun K' hK' => ?_)
      go_simp
      exact hK' _ _ ⟨_, (by simp only [h26, wq, wq2]; try rfl), rfl, Below.refl _ _, hw⟩
    | 28, ho =>
      obtain rfl := Option.some.inj ho
      have h25 : v 25 = Value.int .u32 (zp : Int) := hd 25 rfl
      have h27 : v 27 = Value.int .u32 ((p14 : Int) / 1024) := hd 27 rfl
      have wq := B28.out
      clear hd ho hv
      refine wpOp_step rfl (fun K' hK' => ?_)
      go_simp
      exact hK' _ _ ⟨_, (by simp only [h25, h27, wq]; try rfl), rfl, Below.refl _ _, hw⟩
    | 29, ho =>
      obtain rfl := Option.some.inj ho
      have h20 : v 20 = Value.int .u32 (a2 : Int) := hd 20 rfl
      have h28 : v 28 = Value.int .u32 (z : Int) := hd 28 rfl
      have wq := W29.out
      clear hd ho hv
      refine wpOp_step rfl (fun K' hK' => ?_)
      go_simp
      exact hK' _ _ ⟨_, (by simp only [h20, h28, wq]; try rfl), rfl, Below.refl _ _, hw⟩
    | 30, ho =>
      obtain rfl := Option.some.inj ho
      have h29 : v 29 = Value.int .u32 (a3 : Int) := hd 29 rfl
      clear hd ho hv
      refine wpOp_step rfl (fun K' hK' => ?_)
      go_simp
      exact hK' _ _ ⟨_, (by simp only [h29]; try rfl), isOne_new u _ _, (Below.refl _ _).alloc (Nat.le_refl _) _, hw.1.alloc hw.1.size _, hw.2.alloc _⟩
    | i + 31, ho => exact absurd hl (by simp)
  case mid =>
    intro o ho v u hw hd
    obtain rfl := Option.some.inj ho
    have h0 : v 0 = Value.slice (some ⟨gw, 0, none⟩) k cw := hd 0 (by decide)
    have h30 : IsOne u (v 30) (Value.int .u32 (a3 : Int)) := hd 30 (by decide)
    clear hd ho
    obtain ⟨ad, h30, hnews⟩ := h30.news
    refine wpOp_step rfl (fun K' hK' => ?_)
    refine step_append_own rfl _ _ 52 rfl w6.heap.size 53 i8 (.int .u32 0) 1 4 Tryd.underlying52 hi hz0 hz1 hz2 rfl (by decide) (Value.slice (some ⟨gw, 0, none⟩) k cw) k xs (by rw [← h0]; rfl) hw.2 ad 1 1 [Value.int .u32 (a3 : Int)] (by rw [← h30]; rfl) rfl hnews (by simp [Value.oneCell']) (by unfold maxLen; omega) (by omega) hw.1.size ?_
    intro v' w' ho1 hgr
    exact hK' _ _ ⟨_, rfl, ho1, hw.1.grown hgr hw.1.size (fun j hj => (hw.2.lt j hj).1)⟩
  case last =>
    intro o ho v u hm
    obtain rfl := Option.some.inj ho
    refine wpOp_step rfl (fun K' hK' => ?_)
    go_simp
    exact hK' _ _ ⟨_, rfl, hm⟩
  case fin =>
    intro v u hm
    exact HFIN.out v u hm.1 hm.2

end Go.Proofs.YtpdionmecflibaaDoor
