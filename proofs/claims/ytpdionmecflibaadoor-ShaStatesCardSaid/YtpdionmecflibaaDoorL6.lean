/-
  Region 34 and loop 6 of the document's Sum256: the sixty-four rounds.
-/
import Derived.Test.YtpdionmecflibaaDoorRCut
import Derived.Test.YtpdionmecflibaaDoorLast2
import Derived.Laws.AppendOwn
namespace Go.Proofs.YtpdionmecflibaaDoor
open Go.RowKit

theorem has8_of {w : World} {g : Nat} {V : Mt.W8} (h : w.heap[g]? = some (.cells V.cells 53 (0, 0))) : Has8 w g V := by
  intro i hi
  rw [cell_of_row _ _ _ _ _ _ h]
  exact Mt.cells32_get V.list i hi
theorem Has8.lt {w : World} {g : Nat} {V : Mt.W8} (h : Has8 w g V) : g < w.heap.size := World.block_lt_of_cell? w ⟨g, 0, none⟩ (h 0 (by decide))
theorem Has8.below {w u : World} {g : Nat} {V : Mt.W8} (h : Has8 w g V) (hb : Below w.heap.size w u) : Has8 u g V := by
  intro i hi
  rw [hb.cell (p := ⟨g, i, none⟩) h.lt]; exact h i hi

set_option maxHeartbeats 2000000 in
set_option maxRecDepth 1000000 in
theorem region34 {x0 x1 x2 x3 x4 x5 x6 x7 x9 x10 x11 x13 x14 x15 x18 x19 x20 x21 x22 x23 x24 x25 x26 x27 x28 x29 x30 x31 x32 x33 x34 x35 x36 x37 x38 x39 x40 x41 x42 x43 x44 x45 x46 x47 x48 x49 x50 x51 x52 x53 x54 x55 x56 x57 x58 x59 x60 x61 x62 x63 x64 x65 x66 x67 x68 x69 x70 x71 x72 x73 x74 x75 x76 x77 x78 x79 x80 x81 x82 x83 x84 x85 x86 x87 x88 x89 x90 x91 x92 x93 x94 x95 x96 x97 x98 x99 x100 x101 x102 x103 x104 x105 x106 x107 x108 x109 x110 x111 x112 x113 x114 x115 x116 x117 x118 x119 x120 x121 x122 x123 x124 x125 x126 x127 x128 x129 x130 x131 x132 x133 x134 x135 x136 x137 x138 x139 x140 x141 x142 x143 x144 x145 x146 x147 x148 x149 x150 x151 x152 x153 x154 x155 x156 x157 x158 x159 x160 x161 x162 x163 x164 x165 x166 x167 x168 x169 x170 x171 x172 x173 x174 x175 x176 x177 x178 x179 x180 x181 x182 x183 x184 x185 x186 x187 x188 x189 x190 x191 x192 x193 x194 x195 x196 x197 x198 x199 x200 x201 x202 x203 x204 x205 x206 x207 x208 x209 x210 x211 x212 x213 x214 x215 x216 x217 x218 x219 x220 x221 x222 x223 x224 x225 x226 x227 x228 x229 x230 x231 x232 : Value} (gv cv gk ck gw cw n kn wn : Nat) (V : Mt.W8) (w7 w : World) (Q : Exit → Act → World → Prop)
    (hV : V.Ok) (hn : n < 64) (hgk : gk < w7.heap.size) (hgw : gw < w7.heap.size) (ek : w7.cell? ⟨gk, n, none⟩ = some (.int .u32 (kn : Int))) (ew : w7.cell? ⟨gw, n, none⟩ = some (.int .u32 (wn : Int)))
    (h8 : Has8 w gv V) (hb : Below w7.heap.size w7 w)
    (hfin : ∀ (v : Nat → Value) (u : World), (∃ gx cx : Nat, v 10 = .slice (some ⟨gx, 0, none⟩) 8 cx ∧ Has8 u gx (Mt.rnd V (kn + wn)) ∧ Below w7.heap.size w7 u ∧ w7.heap.size ≤ gx) → Q .normal ⟨#[x0, x1, x2, x3, x4, x5, x6, x7, Value.slice (some ⟨gk, 0, none⟩) 64 ck, x9, x10, x11, Value.slice (some ⟨gw, 0, none⟩) 64 cw, x13, x14, x15, v 10, Value.int .i64 (n : Int), x18, x19, x20, x21, x22, x23, x24, x25, x26, x27, x28, x29, x30, x31, x32, x33, x34, x35, x36, x37, x38, x39, x40, x41, x42, x43, x44, x45, x46, x47, x48, x49, x50, x51, x52, x53, x54, x55, x56, x57, x58, x59, x60, x61, x62, x63, x64, x65, x66, x67, x68, x69, x70, x71, x72, x73, x74, x75, x76, x77, x78, x79, x80, x81, x82, x83, x84, x85, x86, x87, x88, x89, x90, x91, x92, x93, x94, x95, x96, x97, x98, x99, x100, x101, x102, x103, x104, x105, x106, x107, x108, x109, x110, x111, x112, x113, x114, x115, x116, x117, x118, x119, x120, x121, x122, x123, x124, x125, x126, x127, x128, x129, x130, x131, x132, x133, x134, x135, x136, x137, x138, x139, x140, x141, x142, x143, x144, x145, x146, x147, x148, x149, x150, x151, x152, x153, x154, x155, x156, x157, x158, x159, x160, x161, x162, x163, x164, x165, x166, x167, x168, x169, x170, x171, x172, x173, x174, x175, x176, v 0, v 1, v 2, v 3, v 4, v 5, v 6, v 7, v 8, v 9, x187, x188, x189, x190, x191, x192, x193, x194, x195, x196, x197, x198, x199, x200, x201, x202, x203, x204, x205, x206, x207, x208, x209, x210, x211, x212, x213, x214, x215, x216, x217, x218, x219, x220, x221, x222, x223, x224, x225, x226, x227, x228, x229, x230, x231, x232], []⟩ u) :
    Code.wp Tryd.prog (rreg 34) Q ⟨#[x0, x1, x2, x3, x4, x5, x6, x7, Value.slice (some ⟨gk, 0, none⟩) 64 ck, x9, x10, x11, Value.slice (some ⟨gw, 0, none⟩) 64 cw, x13, x14, x15, Value.slice (some ⟨gv, 0, none⟩) 8 cv, Value.int .i64 (n : Int), x18, x19, x20, x21, x22, x23, x24, x25, x26, x27, x28, x29, x30, x31, x32, x33, x34, x35, x36, x37, x38, x39, x40, x41, x42, x43, x44, x45, x46, x47, x48, x49, x50, x51, x52, x53, x54, x55, x56, x57, x58, x59, x60, x61, x62, x63, x64, x65, x66, x67, x68, x69, x70, x71, x72, x73, x74, x75, x76, x77, x78, x79, x80, x81, x82, x83, x84, x85, x86, x87, x88, x89, x90, x91, x92, x93, x94, x95, x96, x97, x98, x99, x100, x101, x102, x103, x104, x105, x106, x107, x108, x109, x110, x111, x112, x113, x114, x115, x116, x117, x118, x119, x120, x121, x122, x123, x124, x125, x126, x127, x128, x129, x130, x131, x132, x133, x134, x135, x136, x137, x138, x139, x140, x141, x142, x143, x144, x145, x146, x147, x148, x149, x150, x151, x152, x153, x154, x155, x156, x157, x158, x159, x160, x161, x162, x163, x164, x165, x166, x167, x168, x169, x170, x171, x172, x173, x174, x175, x176, x177, x178, x179, x180, x181, x182, x183, x184, x185, x186, x187, x188, x189, x190, x191, x192, x193, x194, x195, x196, x197, x198, x199, x200, x201, x202, x203, x204, x205, x206, x207, x208, x209, x210, x211, x212, x213, x214, x215, x216, x217, x218, x219, x220, x221, x222, x223, x224, x225, x226, x227, x228, x229, x230, x231, x232], []⟩ w := by
  have HFIN := Lib.hid hfin
  have HE := Lib.hid (show ∀ u, Below w7.heap.size w7 u → u.cell? ⟨gk, n, none⟩ = some (.int .u32 (kn : Int)) ∧ u.cell? ⟨gw, n, none⟩ = some (.int .u32 (wn : Int)) from fun u hu =>
    ⟨by rw [hu.cell (p := ⟨gk, n, none⟩) hgk]; exact ek, by rw [hu.cell (p := ⟨gw, n, none⟩) hgw]; exact ew⟩)
  have H8' := Lib.hid h8
  have HB := Lib.hid hb
  have HV := Lib.hid hV
  have HRR := Lib.hid (fun (u : World) (hu : Has8 u gv V) => rround_any V kn wn gv cv u hV hu)
  clear ek ew h8 hb hfin hV
  conv => arg 2; whnf
  refine wp_region_last3 (by kernel_rfl) (fun v => ⟨#[x0, x1, x2, x3, x4, x5, x6, x7, Value.slice (some ⟨gk, 0, none⟩) 64 ck, x9, x10, x11, Value.slice (some ⟨gw, 0, none⟩) 64 cw, x13, x14, x15, v 10, Value.int .i64 (n : Int), x18, x19, x20, x21, x22, x23, x24, x25, x26, x27, x28, x29, x30, x31, x32, x33, x34, x35, x36, x37, x38, x39, x40, x41, x42, x43, x44, x45, x46, x47, x48, x49, x50, x51, x52, x53, x54, x55, x56, x57, x58, x59, x60, x61, x62, x63, x64, x65, x66, x67, x68, x69, x70, x71, x72, x73, x74, x75, x76, x77, x78, x79, x80, x81, x82, x83, x84, x85, x86, x87, x88, x89, x90, x91, x92, x93, x94, x95, x96, x97, x98, x99, x100, x101, x102, x103, x104, x105, x106, x107, x108, x109, x110, x111, x112, x113, x114, x115, x116, x117, x118, x119, x120, x121, x122, x123, x124, x125, x126, x127, x128, x129, x130, x131, x132, x133, x134, x135, x136, x137, x138, x139, x140, x141, x142, x143, x144, x145, x146, x147, x148, x149, x150, x151, x152, x153, x154, x155, x156, x157, x158, x159, x160, x161, x162, x163, x164, x165, x166, x167, x168, x169, x170, x171, x172, x173, x174, x175, x176, v 0, v 1, v 2, v 3, v 4, v 5, v 6, v 7, v 8, v 9, x187, x188, x189, x190, x191, x192, x193, x194, x195, x196, x197, x198, x199, x200, x201, x202, x203, x204, x205, x206, x207, x208, x209, x210, x211, x212, x213, x214, x215, x216, x217, x218, x219, x220, x221, x222, x223, x224, x225, x226, x227, x228, x229, x230, x231, x232], []⟩) (OneAt [.inl (Value.slice (some ⟨gv, 0, none⟩) 8 cv), .inl (Value.slice (some ⟨gk, 0, none⟩) 64 ck), .inl (Value.int .i64 (n : Int)), .inl (Value.pointer (some ⟨gk, n, none⟩)), .inl (Value.int .u32 (kn : Int)), .inl (Value.slice (some ⟨gw, 0, none⟩) 64 cw), .inl (Value.int .i64 (n : Int)), .inl (Value.pointer (some ⟨gw, n, none⟩)), .inl (Value.int .u32 (wn : Int))]) (fun u => Below w7.heap.size w7 u ∧ Has8 u gv V) (fun x u => ∃ gx cx : Nat, x = .slice (some ⟨gx, 0, none⟩) 8 cx ∧ Has8 u gx (Mt.rnd V (kn + wn)) ∧ Below w7.heap.size w7 u ∧ w7.heap.size ≤ gx) (fun x u => ∃ gx cx : Nat, x = .slice (some ⟨gx, 0, none⟩) 8 cx ∧ Has8 u gx (Mt.rnd V (kn + wn)) ∧ Below w7.heap.size w7 u ∧ w7.heap.size ≤ gx)
    (fun i => ([x177, x178, x179, x180, x181, x182, x183, x184, x185, x186, Value.slice (some ⟨gv, 0, none⟩) 8 cv] : List Value).getD i undef) w (oneAt_mono _) (by kernel_rfl) (by kernel_rfl) (by kernel_rfl) (by decide) ?hput ?step ?mid ?last ⟨HB.out.drew, fun i hi => H8'.out i hi⟩ ?fin
  case hput =>
    intro i o ho v x
    match i, ho with
    | 0, ho => obtain rfl := Option.some.inj ho; rfl
    | 1, ho => obtain rfl := Option.some.inj ho; rfl
    | 2, ho => obtain rfl := Option.some.inj ho; rfl
    | 3, ho => obtain rfl := Option.some.inj ho; rfl
    | 4, ho => obtain rfl := Option.some.inj ho; rfl
    | 5, ho => obtain rfl := Option.some.inj ho; rfl
    | 6, ho => obtain rfl := Option.some.inj ho; rfl
    | 7, ho => obtain rfl := Option.some.inj ho; rfl
    | 8, ho => obtain rfl := Option.some.inj ho; rfl
    | 9, ho => obtain rfl := Option.some.inj ho; rfl
    | 10, ho => obtain rfl := Option.some.inj ho; rfl
    | i + 11, ho => cases ho
  case step =>
    intro i o ho hl v u hv hw hd
    match i, ho with
    | 0, ho =>
      obtain rfl := Option.some.inj ho
      clear hd ho
      refine wpOp_step rfl (fun K' hK' => ?_)
      go_simp
      exact hK' _ _ ⟨_, rfl, hv, Below.refl _ _, hw⟩
    | 1, ho =>
      obtain rfl := Option.some.inj ho
      clear hd ho hv
      refine wpOp_step rfl (fun K' hK' => ?_)
      go_simp
      exact hK' _ _ ⟨_, rfl, rfl, Below.refl _ _, hw⟩
    | 2, ho =>
      obtain rfl := Option.some.inj ho
      clear hd ho hv
      refine wpOp_step rfl (fun K' hK' => ?_)
      go_simp
      exact hK' _ _ ⟨_, rfl, rfl, Below.refl _ _, hw⟩
    | 3, ho =>
      obtain rfl := Option.some.inj ho
      have h1 : v 1 = Value.slice (some ⟨gk, 0, none⟩) 64 ck := hd 1 rfl
      have h2 : v 2 = Value.int .i64 (n : Int) := hd 2 rfl
      have q1 : (n : Int) < 64 := by omega
      clear hd ho hv
      refine wpOp_step rfl (fun K' hK' => ?_)
      go_simp
      exact hK' _ _ ⟨_, (by simp only [h1, h2]; try rfl), rfl, Below.refl _ _, hw⟩
    | 4, ho =>
      obtain rfl := Option.some.inj ho
      have h3 : v 3 = Value.pointer (some ⟨gk, n, none⟩) := hd 3 rfl
      have hcc := (HE.out u hw.1).1
      clear hd ho hv
      refine wpOp_step rfl (fun K' hK' => ?_)
      go_simp
      exact hK' _ _ ⟨_, (by simp only [h3]; try rfl), rfl, Below.refl _ _, hw⟩
    | 5, ho =>
      obtain rfl := Option.some.inj ho
      clear hd ho hv
      refine wpOp_step rfl (fun K' hK' => ?_)
      go_simp
      exact hK' _ _ ⟨_, rfl, rfl, Below.refl _ _, hw⟩
    | 6, ho =>
      obtain rfl := Option.some.inj ho
      clear hd ho hv
      refine wpOp_step rfl (fun K' hK' => ?_)
      go_simp
      exact hK' _ _ ⟨_, rfl, rfl, Below.refl _ _, hw⟩
    | 7, ho =>
      obtain rfl := Option.some.inj ho
      have h5 : v 5 = Value.slice (some ⟨gw, 0, none⟩) 64 cw := hd 5 rfl
      have h6 : v 6 = Value.int .i64 (n : Int) := hd 6 rfl
      have q1 : (n : Int) < 64 := by omega
      clear hd ho hv
      refine wpOp_step rfl (fun K' hK' => ?_)
      go_simp
      exact hK' _ _ ⟨_, (by simp only [h5, h6]; try rfl), rfl, Below.refl _ _, hw⟩
    | 8, ho =>
      obtain rfl := Option.some.inj ho
      have h7 : v 7 = Value.pointer (some ⟨gw, n, none⟩) := hd 7 rfl
      have hcc := (HE.out u hw.1).2
      clear hd ho hv
      refine wpOp_step rfl (fun K' hK' => ?_)
      go_simp
      exact hK' _ _ ⟨_, (by simp only [h7]; try rfl), rfl, Below.refl _ _, hw⟩
    | i + 9, ho => exact absurd hl (by simp)
  case mid =>
    intro o ho v u hw hd
    obtain rfl := Option.some.inj ho
    have h0 : v 0 = Value.slice (some ⟨gv, 0, none⟩) 8 cv := hd 0 (by decide)
    have h4 : v 4 = Value.int .u32 (kn : Int) := hd 4 (by decide)
    have h8 : v 8 = Value.int .u32 (wn : Int) := hd 8 (by decide)
    clear hd ho
    refine wpOp_step rfl (fun K' hK' => ?_)
    go_simp
    refine (HRR.out u hw.2).mono ?_
    rintro e w' ⟨gx, rfl, hgx, hx, hbx⟩
    exact hK' _ _ ⟨_, (by simp only [h0, h4, h8]; try rfl), gx, 8, rfl, has8_of hx, hw.1.trans (hbx.mono hw.1.size), Nat.le_trans hw.1.size hgx⟩
  case last =>
    intro o ho v u hm
    obtain rfl := Option.some.inj ho
    refine wpOp_step rfl (fun K' hK' => ?_)
    go_simp
    exact hK' _ _ ⟨_, rfl, hm⟩
  case fin =>
    intro v u hm
    exact HFIN.out v u hm

set_option maxHeartbeats 2000000 in
set_option maxRecDepth 1000000 in
theorem loop6 {x0 x1 x2 x3 x4 x5 x6 x7 x9 x10 x11 x13 x14 x15 x18 x19 x20 x21 x22 x23 x24 x25 x26 x27 x28 x29 x30 x31 x32 x33 x34 x35 x36 x37 x38 x39 x40 x41 x42 x43 x44 x45 x46 x47 x48 x49 x50 x51 x52 x53 x54 x55 x56 x57 x58 x59 x60 x61 x62 x63 x64 x65 x66 x67 x68 x69 x70 x71 x72 x73 x74 x75 x76 x77 x78 x79 x80 x81 x82 x83 x84 x85 x86 x87 x88 x89 x90 x91 x92 x93 x94 x95 x96 x97 x98 x99 x100 x101 x102 x103 x104 x105 x106 x107 x108 x109 x110 x111 x112 x113 x114 x115 x116 x117 x118 x119 x120 x121 x122 x123 x124 x125 x126 x127 x128 x129 x130 x131 x132 x133 x134 x135 x136 x137 x138 x139 x140 x141 x142 x143 x144 x145 x146 x147 x148 x149 x150 x151 x152 x153 x154 x155 x156 x157 x158 x159 x160 x161 x162 x163 x164 x165 x166 x167 x168 x169 x170 x171 x172 x173 x174 x175 x176 x177 x178 x179 x180 x181 x182 x183 x184 x185 x186 x187 x188 x189 x190 x191 x192 x193 x194 x195 x196 x197 x198 x199 x200 x201 x202 x203 x204 x205 x206 x207 x208 x209 x210 x211 x212 x213 x214 x215 x216 x217 x218 x219 x220 x221 x222 x223 x224 x225 x226 x227 x228 x229 x230 x231 x232 : Value} (gv cv gk ck gw cw : Nat) (V : Mt.W8) (ks ws : List Nat) (w7 : World) (K : Act → World → Prop) (Q : Exit → Act → World → Prop)
    (hV : V.Ok) (hgk : gk < w7.heap.size) (hgw : gw < w7.heap.size) (ek : ∀ n, n < 64 → w7.cell? ⟨gk, n, none⟩ = some (.int .u32 ((ks.getD n 0 : Nat) : Int))) (ew : ∀ n, n < 64 → w7.cell? ⟨gw, n, none⟩ = some (.int .u32 ((ws.getD n 0 : Nat) : Int)))
    (h8 : Has8 w7 gv V)
    (hfin : ∀ (y16 y17 y173 y174 y175 y176 y177 y178 y179 y180 y181 y182 y183 y184 y185 y186 : Value) (gx cx : Nat) (u : World), y16 = .slice (some ⟨gx, 0, none⟩) 8 cx → (gx = gv ∨ w7.heap.size ≤ gx) → Has8 u gx (Mt.runs ks ws V 64) → Below w7.heap.size w7 u → K ⟨#[x0, x1, x2, x3, x4, x5, x6, x7, Value.slice (some ⟨gk, 0, none⟩) 64 ck, x9, x10, x11, Value.slice (some ⟨gw, 0, none⟩) 64 cw, x13, x14, x15, y16, y17, x18, x19, x20, x21, x22, x23, x24, x25, x26, x27, x28, x29, x30, x31, x32, x33, x34, x35, x36, x37, x38, x39, x40, x41, x42, x43, x44, x45, x46, x47, x48, x49, x50, x51, x52, x53, x54, x55, x56, x57, x58, x59, x60, x61, x62, x63, x64, x65, x66, x67, x68, x69, x70, x71, x72, x73, x74, x75, x76, x77, x78, x79, x80, x81, x82, x83, x84, x85, x86, x87, x88, x89, x90, x91, x92, x93, x94, x95, x96, x97, x98, x99, x100, x101, x102, x103, x104, x105, x106, x107, x108, x109, x110, x111, x112, x113, x114, x115, x116, x117, x118, x119, x120, x121, x122, x123, x124, x125, x126, x127, x128, x129, x130, x131, x132, x133, x134, x135, x136, x137, x138, x139, x140, x141, x142, x143, x144, x145, x146, x147, x148, x149, x150, x151, x152, x153, x154, x155, x156, x157, x158, x159, x160, x161, x162, x163, x164, x165, x166, x167, x168, x169, x170, x171, x172, y173, y174, y175, y176, y177, y178, y179, y180, y181, y182, y183, y184, y185, y186, x187, x188, x189, x190, x191, x192, x193, x194, x195, x196, x197, x198, x199, x200, x201, x202, x203, x204, x205, x206, x207, x208, x209, x210, x211, x212, x213, x214, x215, x216, x217, x218, x219, x220, x221, x222, x223, x224, x225, x226, x227, x228, x229, x230, x231, x232], []⟩ u) :
    Code.wp Tryd.prog (Code.loop (rbody 5)) (Exit.inBlock 10 (Exit.then K Q)) ⟨#[x0, x1, x2, x3, x4, x5, x6, x7, Value.slice (some ⟨gk, 0, none⟩) 64 ck, x9, x10, x11, Value.slice (some ⟨gw, 0, none⟩) 64 cw, x13, x14, x15, Value.slice (some ⟨gv, 0, none⟩) 8 cv, Value.int .i64 0, x18, x19, x20, x21, x22, x23, x24, x25, x26, x27, x28, x29, x30, x31, x32, x33, x34, x35, x36, x37, x38, x39, x40, x41, x42, x43, x44, x45, x46, x47, x48, x49, x50, x51, x52, x53, x54, x55, x56, x57, x58, x59, x60, x61, x62, x63, x64, x65, x66, x67, x68, x69, x70, x71, x72, x73, x74, x75, x76, x77, x78, x79, x80, x81, x82, x83, x84, x85, x86, x87, x88, x89, x90, x91, x92, x93, x94, x95, x96, x97, x98, x99, x100, x101, x102, x103, x104, x105, x106, x107, x108, x109, x110, x111, x112, x113, x114, x115, x116, x117, x118, x119, x120, x121, x122, x123, x124, x125, x126, x127, x128, x129, x130, x131, x132, x133, x134, x135, x136, x137, x138, x139, x140, x141, x142, x143, x144, x145, x146, x147, x148, x149, x150, x151, x152, x153, x154, x155, x156, x157, x158, x159, x160, x161, x162, x163, x164, x165, x166, x167, x168, x169, x170, x171, x172, x173, x174, x175, x176, x177, x178, x179, x180, x181, x182, x183, x184, x185, x186, x187, x188, x189, x190, x191, x192, x193, x194, x195, x196, x197, x198, x199, x200, x201, x202, x203, x204, x205, x206, x207, x208, x209, x210, x211, x212, x213, x214, x215, x216, x217, x218, x219, x220, x221, x222, x223, x224, x225, x226, x227, x228, x229, x230, x231, x232], []⟩ w7 := by
  have HFIN := Lib.hid hfin
  have HK := Lib.hid ek
  have HW := Lib.hid ew
  have H8' := Lib.hid h8
  have HV := Lib.hid hV
  clear hfin ek ew h8 hV
  conv => zeta
  conv => arg 2; arg 1; whnf
  go_loopw [16, 17] (fun vv i wx => ∃ (n gx cx : Nat), n ≤ 64 ∧ i = .int .i64 n ∧ vv = .slice (some ⟨gx, 0, none⟩) 8 cx ∧ Hid (gx = gv ∨ w7.heap.size ≤ gx) ∧ Hid (Has8 wx gx (Mt.runs ks ws V n)) ∧ Hid (Below w7.heap.size w7 wx)) (fun _ i _ => 64 - (intOf i).toNat)
  case atStart => exact ⟨0, gv, cv, by omega, rfl, rfl, Lib.hid (.inl rfl), H8', Lib.hid (Below.refl _ _)⟩
  case round =>
    obtain ⟨n, gx, cx, hn, rfl, rfl, HF, HX, HB⟩ := hrel
    by_cases hn64 : n < 64
    · have hn64' : (n : Int) < 64 := by omega
      go_wp2_with fail
      refine region34 gx cx gk ck gw cw n (ks.getD n 0) (ws.getD n 0) (Mt.runs ks ws V n) w7 _ _ (Mt.runs_ok ks ws HV.out n) hn64 hgk hgw (HK.out n hn64) (HW.out n hn64) HX.out HB.out ?_
      rintro v u ⟨gy, cy, hy, h8y, hby, hgy⟩
      have HGY := Lib.hid (show gy = gv ∨ w7.heap.size ≤ gy from .inr hgy)
      have H8Y := Lib.hid h8y
      have HBY := Lib.hid hby
      have HY := Lib.hid hy
      clear h8y hby hy hgy HX HB HF
      go_wp2_with fail
      go_roundw
      case rel => exact ⟨n + 1, gy, cy, by omega, by go_num, HY.out, HGY, H8Y, HBY⟩
      case measure => simp [intOf]; omega
    · have hn64' : decide ((n : Int) < 64) = false := decide_eq_false (by omega)
      obtain rfl : n = 64 := by omega
      go_wp2_with fail
      exact HFIN.out _ _ _ _ _ _ _ _ _ _ _ _ _ _ _ _ gx cx _ rfl HF.out HX.out HB.out

end Go.Proofs.YtpdionmecflibaaDoor

/-
  Loop 7 of the document's Sum256: the words are added.
-/
namespace Go.Proofs.YtpdionmecflibaaDoor
open Go.RowKit

/-- Eight words lie in a block. -/
def H8L (w : World) (g : Nat) (l : List Nat) : Prop := ∃ cur, w.heap[g]? = some (.cells cur 53 (0, 0)) ∧ ∀ i, i < 8 → cur[i]? = some (.int .u32 ((l.getD i 0 : Nat) : Int))
def H8 (w : World) (g : Nat) (V : Mt.W8) : Prop := H8L w g V.list
theorem H8.has {w : World} {g : Nat} {V : Mt.W8} (h : H8 w g V) : Has8 w g V := by
  obtain ⟨cur, h1, h2⟩ := h
  intro i hi
  rw [cell_of_row _ _ _ _ _ _ h1]; exact h2 i hi
theorem Mt.mixed_at (V U : Mt.W8) (n i : Nat) (hn : n < 8) (hi : i < 8) : (Mt.mixed V U (n + 1)).getD i 0 = if i = n then (V.list.getD n 0 + U.list.getD n 0) % 4294967296 else (Mt.mixed V U n).getD i 0 := by
  have h := (Mt.mixed_step V U n hn).2.1
  have h1 := Mt.cells32_get (Mt.mixed V U (n + 1)) i (by rw [Mt.mixed_length _ _ _ (by omega)]; exact hi)
  have h2 := Mt.cells32_get (Mt.mixed V U n) i (by rw [Mt.mixed_length _ _ _ (by omega)]; exact hi)
  rw [← h, Array.getElem?_setIfInBounds] at h1
  by_cases hin : n = i
  · subst hin
    rw [if_pos rfl] at h1
    rw [if_pos rfl]
    split at h1
    · have := Option.some.inj h1
      injection this with _ h3
      omega
    · cases h1
  · rw [if_neg hin, h2] at h1
    rw [if_neg (Ne.symm hin)]
    have := Option.some.inj h1
    injection this with _ h3
    omega
theorem Mt.mixed_here (V U : Mt.W8) (n : Nat) (hn : n < 8) : (Mt.mixed V U n).getD n 0 = V.list.getD n 0 := by
  have h1 := (Mt.mixed_step V U n hn).1
  rw [Mt.cells32_get _ _ (by rw [Mt.mixed_length _ _ _ (by omega)]; exact hn)] at h1
  have := Option.some.inj h1
  injection this with _ h3
  omega
theorem H8L.step {w : World} {g n : Nat} {V U : Mt.W8} (h : H8L w g (Mt.mixed V U n)) (hn : n < 8) : H8L (w.setCell ⟨g, n, none⟩ (.int .u32 ((((V.list.getD n 0 : Nat) : Int) + ((U.list.getD n 0 : Nat) : Int)) % 4294967296))) g (Mt.mixed V U (n + 1)) := by
  obtain ⟨cur, h1, h2⟩ := h
  refine ⟨_, heap_setCell_same _ _ _ _ _ _ h1, fun i hi => ?_⟩
  rw [Array.getElem?_setIfInBounds, Mt.mixed_at V U n i hn hi]
  by_cases hin : n = i
  · subst hin
    have h3 := h2 n hn
    have hlt : n < cur.size := by
      rcases Nat.lt_or_ge n cur.size with h | h
      · exact h
      · rw [Array.getElem?_eq_none h] at h3; cases h3
    rw [if_pos rfl, if_pos hlt, if_pos rfl]
    congr 2
  · rw [if_neg hin, if_neg (Ne.symm hin)]; exact h2 i hi

set_option maxHeartbeats 2000000 in
set_option maxRecDepth 1000000 in
theorem loop7 {x0 x1 x2 x3 x4 x5 x6 x8 x9 x10 x11 x12 x13 x14 x15 x17 x19 x20 x21 x22 x23 x24 x25 x26 x27 x28 x29 x30 x31 x32 x33 x34 x35 x36 x37 x38 x39 x40 x41 x42 x43 x44 x45 x46 x47 x48 x49 x50 x51 x52 x53 x54 x55 x56 x57 x58 x59 x60 x61 x62 x63 x64 x65 x66 x67 x68 x69 x70 x71 x72 x73 x74 x75 x76 x77 x78 x79 x80 x81 x82 x83 x84 x85 x86 x87 x88 x89 x90 x91 x92 x93 x94 x95 x96 x97 x98 x99 x100 x101 x102 x103 x104 x105 x106 x107 x108 x109 x110 x111 x112 x113 x114 x115 x116 x117 x118 x119 x120 x121 x122 x123 x124 x125 x126 x127 x128 x129 x130 x131 x132 x133 x134 x135 x136 x137 x138 x139 x140 x141 x142 x143 x144 x145 x146 x147 x148 x149 x150 x151 x152 x153 x154 x155 x156 x157 x158 x159 x160 x161 x162 x163 x164 x165 x166 x167 x168 x169 x170 x171 x172 x173 x174 x175 x176 x177 x178 x179 x180 x181 x182 x183 x184 x185 x186 x187 x188 x189 x190 x191 x192 x193 x194 x195 x196 x197 x198 x199 x200 x201 x202 x203 x204 x205 x206 x207 x208 x209 x210 x211 x212 x213 x214 x215 x216 x217 x218 x219 x220 x221 x222 x223 x224 x225 x226 x227 x228 x229 x230 x231 x232 : Value} (gh ch gx cx : Nat) (V U : Mt.W8) (w8 : World) (R : Exit → Act → World → Prop)
    (hne : gx ≠ gh) (hV : H8 w8 gh V) (hU : Has8 w8 gx U)
    (hfin : ∀ (y18 y187 y188 y189 y190 y191 y192 y193 y194 y195 y196 y197 y198 y199 y200 : Value) (u : World), H8 u gh (Mt.addW V U) → Only gh w8 u → R .normal ⟨#[x0, x1, x2, x3, x4, x5, x6, Value.slice (some ⟨gh, 0, none⟩) 8 ch, x8, x9, x10, x11, x12, x13, x14, x15, Value.slice (some ⟨gx, 0, none⟩) 8 cx, x17, y18, x19, x20, x21, x22, x23, x24, x25, x26, x27, x28, x29, x30, x31, x32, x33, x34, x35, x36, x37, x38, x39, x40, x41, x42, x43, x44, x45, x46, x47, x48, x49, x50, x51, x52, x53, x54, x55, x56, x57, x58, x59, x60, x61, x62, x63, x64, x65, x66, x67, x68, x69, x70, x71, x72, x73, x74, x75, x76, x77, x78, x79, x80, x81, x82, x83, x84, x85, x86, x87, x88, x89, x90, x91, x92, x93, x94, x95, x96, x97, x98, x99, x100, x101, x102, x103, x104, x105, x106, x107, x108, x109, x110, x111, x112, x113, x114, x115, x116, x117, x118, x119, x120, x121, x122, x123, x124, x125, x126, x127, x128, x129, x130, x131, x132, x133, x134, x135, x136, x137, x138, x139, x140, x141, x142, x143, x144, x145, x146, x147, x148, x149, x150, x151, x152, x153, x154, x155, x156, x157, x158, x159, x160, x161, x162, x163, x164, x165, x166, x167, x168, x169, x170, x171, x172, x173, x174, x175, x176, x177, x178, x179, x180, x181, x182, x183, x184, x185, x186, y187, y188, y189, y190, y191, y192, y193, y194, y195, y196, y197, y198, y199, y200, x201, x202, x203, x204, x205, x206, x207, x208, x209, x210, x211, x212, x213, x214, x215, x216, x217, x218, x219, x220, x221, x222, x223, x224, x225, x226, x227, x228, x229, x230, x231, x232], []⟩ u) :
    Code.wp Tryd.prog (Code.loop (rbody 6)) (Exit.inBlock 12 R) ⟨#[x0, x1, x2, x3, x4, x5, x6, Value.slice (some ⟨gh, 0, none⟩) 8 ch, x8, x9, x10, x11, x12, x13, x14, x15, Value.slice (some ⟨gx, 0, none⟩) 8 cx, x17, Value.int .i64 0, x19, x20, x21, x22, x23, x24, x25, x26, x27, x28, x29, x30, x31, x32, x33, x34, x35, x36, x37, x38, x39, x40, x41, x42, x43, x44, x45, x46, x47, x48, x49, x50, x51, x52, x53, x54, x55, x56, x57, x58, x59, x60, x61, x62, x63, x64, x65, x66, x67, x68, x69, x70, x71, x72, x73, x74, x75, x76, x77, x78, x79, x80, x81, x82, x83, x84, x85, x86, x87, x88, x89, x90, x91, x92, x93, x94, x95, x96, x97, x98, x99, x100, x101, x102, x103, x104, x105, x106, x107, x108, x109, x110, x111, x112, x113, x114, x115, x116, x117, x118, x119, x120, x121, x122, x123, x124, x125, x126, x127, x128, x129, x130, x131, x132, x133, x134, x135, x136, x137, x138, x139, x140, x141, x142, x143, x144, x145, x146, x147, x148, x149, x150, x151, x152, x153, x154, x155, x156, x157, x158, x159, x160, x161, x162, x163, x164, x165, x166, x167, x168, x169, x170, x171, x172, x173, x174, x175, x176, x177, x178, x179, x180, x181, x182, x183, x184, x185, x186, x187, x188, x189, x190, x191, x192, x193, x194, x195, x196, x197, x198, x199, x200, x201, x202, x203, x204, x205, x206, x207, x208, x209, x210, x211, x212, x213, x214, x215, x216, x217, x218, x219, x220, x221, x222, x223, x224, x225, x226, x227, x228, x229, x230, x231, x232], []⟩ w8 := by
  have HFIN := Lib.hid hfin
  have HV := Lib.hid hV
  have HU := Lib.hid hU
  have HNE := Lib.hid hne
  clear hfin hV hU hne
  conv => zeta
  conv => arg 2; arg 1; whnf
  go_loopw [18] (fun i wx => ∃ n : Nat, n ≤ 8 ∧ i = .int .i64 n ∧ Hid (H8L wx gh (Mt.mixed V U n)) ∧ Hid (Only gh w8 wx)) (fun i _ => 8 - (intOf i).toNat)
  case atStart => exact ⟨0, by omega, rfl, Lib.hid HV.out, Lib.hid (Only.refl _ _)⟩
  case round =>
    obtain ⟨n, hn, rfl, HX, HO⟩ := hrel
    by_cases hn8 : n < 8
    · have hn8' : (n : Int) < 8 := by omega
      have hch : wr.cell? ⟨gh, n, none⟩ = some (.int .u32 ((V.list.getD n 0 : Nat) : Int)) := by
        obtain ⟨cur, h1, h2⟩ := HX.out
        rw [cell_of_row _ _ _ _ _ _ h1, h2 n hn8, Mt.mixed_here V U n hn8]
      have hcx : wr.cell? ⟨gx, n, none⟩ = some (.int .u32 ((U.list.getD n 0 : Nat) : Int)) := by
        rw [HO.out.cell (p := ⟨gx, n, none⟩) HU.out.lt HNE.out]; exact HU.out n hn8
      have hfz : wr.frozen? ⟨gh, n, none⟩ = false := by
        obtain ⟨cur, h1, h2⟩ := HX.out
        exact frozen_of_row _ _ _ _ _ h1
      have HST := Lib.hid (H8L.step HX.out hn8)
      generalize V.list.getD n 0 = a at hch HST
      generalize U.list.getD n 0 = b at hcx HST
      go_wp2_with fail
      go_region
      go_wp2_with fail
      go_roundw
      case rel => exact ⟨n + 1, by omega, by go_num, HST, Lib.hid (Only.setCell HO.out _).drew⟩
      case measure => simp [intOf]; omega
    · have hn8' : decide ((n : Int) < 8) = false := decide_eq_false (by omega)
      obtain rfl : n = 8 := by omega
      go_wp2_with fail
      exact HFIN.out _ _ _ _ _ _ _ _ _ _ _ _ _ _ _ _ HX.out HO.out

end Go.Proofs.YtpdionmecflibaaDoor
