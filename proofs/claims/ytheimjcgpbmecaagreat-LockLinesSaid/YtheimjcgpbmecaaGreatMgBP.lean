/-
  The contracts of math/bits.Len64 as this program holds it, and of words.High.
  Package levels: the first line of Pop.
  Pure: the machines of levels as frames: what a line runs, what follows it, a step, all steps until the end. No function is named.
  Plain mathematics of a deque as words. No function is named.
-/
import Derived.Test.YtheimjcgpbmecaaGreatRows
import Derived.Test.YtheimjcgpbmecaaGreatMgAI
import Derived.WalkKit
import Derived.WalkSpells
import Derived.WalkLawsBesides
import Derived.Shelf.Strconv.Itoa0
import Derived.Test.YtheimjcgpbmecaaGreatLvS
import Derived.Test.YtheimjcgpbmecaaGreatMgAQ
import Derived.Test.YtheimjcgpbmecaaGreatMgBK
import Derived.Test.YtheimjcgpbmecaaGreatMgAN
import Derived.Test.YtheimjcgpbmecaaGreatMgAD
namespace Go.Proofs.YtheimjcgpbmecaaGreat
open Go Go.RowKit

/-- This program's numbers in the shelf's table for math/bits.Len64. -/
def lays129Ren : Go.Shelf.Ren := ⟨fun | 129 => 219 | n => n, fun | 53 => 50 | 3 => 3 | 4 => 4 | 46 => 188 | 5 => 5 | 9 => 9 | n => n, fun | n => n⟩

theorem lays129 : Go.Proofs.Lays.n129 Tryz.prog lays129Ren := {
  mixed := by kernel_rfl
  f129 := Tryz.func219.trans (congrArg some (by kernel_rfl))
  t3 := Tryz.underlying3
  a3 := Tryz.isAgg3
  z3 := Tryz.sizeOf3
  v3 := Tryz.zeroValue3
  t4 := Tryz.underlying4
  a4 := Tryz.isAgg4
  z4 := Tryz.sizeOf4
  v4 := Tryz.zeroValue4
  t5 := Tryz.underlying5
  a5 := Tryz.isAgg5
  z5 := Tryz.sizeOf5
  v5 := Tryz.zeroValue5
  t9 := Tryz.underlying9
  a9 := Tryz.isAgg9
  z9 := Tryz.sizeOf9
  v9 := Tryz.zeroValue9
  t46 := Tryz.underlying188
  a46 := Tryz.isAgg188
  z46 := Tryz.sizeOf188
  v46 := Tryz.zeroValue188
  t53 := Tryz.underlying50
  a53 := Tryz.isAgg50
  z53 := Tryz.sizeOf50
  v53 := Tryz.zeroValue50 }

theorem len64_any (x : Nat) (hx : x < 18446744073709551616) (w : World) :
    Calls Tryz.prog 219 #[.int .u64 (x : Int)] w fun e w' => e = .returned (.int .i64 (Lib.bitLen x : Nat)) ∧ w = w' := by
  refine (Any.bits_Len64 lays129 (x : Int) w (by omega) (by omega)).mono ?_
  rintro e w' ⟨rfl, rfl⟩
  exact ⟨rfl, rfl⟩
theorem high_any (x : Nat) (hx : x < 18446744073709551616) (w : World) :
    Calls Tryz.prog 213 #[.int .u64 (x : Int)] w fun e w' => e = .returned (.int .i64 (hiS x)) ∧ w = w' := by
  have hle : Lib.bitLen x ≤ 64 := Lib.bitLen_le x 64 (by omega) hx
  unfold hiS
  go_enter Tryz.func213, Tryz.ntmps213
  go_wp2_with (go_at_call 219; refine (len64_any x hx _).mono ?_; rintro e w' ⟨rfl, rfl⟩)
  go_ret
  exact ⟨rfl, rfl⟩
end Go.Proofs.YtheimjcgpbmecaaGreat

namespace Go.Proofs.YtheimjcgpbmecaaGreat
open Go Go.RowKit Go.Shelf
set_option linter.unusedSimpArgs false
set_option linter.unusedVariables false
section
variable {w w' : World} {p m k g cap : Nat} {s : St} {t d : Int} {hd : List Value} {rv ev : Value} {c : Cfg} {b : Nat} {f x : Fra}
/-- Cell 5 of a machine of Pop: its level. -/
theorem LB.put5 {ty : TypeId} {cd vl : Int} {u a0 a1 : Value} (h : LB w b ty [u, a0, a1] f cd vl) (v : Value) : LB (w.setCell ⟨b, 5, none⟩ v) b ty [u, a0, v] f cd vl := by
  refine ⟨?_, h.t1, h.t2, h.t3, h.t4⟩
  have hb := h.blk.put 5 v
  simp only [List.cons_append, List.nil_append, List.setIfInBounds_toArray, List.set_cons_zero, List.set_cons_succ] at hb
  exact hb
theorem LB.ofln {ty : TypeId} {post : List Value} {cd vl : Int} {q : Nat} {f' : Fra} (h : LB w q ty post f cd vl) (e : f'.ln = f.ln) : LB w q ty post f' cd vl := by
  refine ⟨?_, h.t1, h.t2, h.t3, h.t4⟩
  have hb := h.blk
  simp only [lncells] at hb ⊢
  rw [e]
  exact hb
set_option maxRecDepth 100000 in
set_option maxHeartbeats 4000000 in
theorem lvpopper_1e (hp : PE w p m k g cap s t d hd rv ev) (hl : LayHd hd c) (hin : CfgIn c) (hu : uw (s.old (rBitmap c f.fa))) (h : LB w b 146 (.nilIface :: [.int .i64 f.fa, .int .i64 f.fi]) f 0 0) (hln : f.ln = 1) (hc : s.old (rBitmap c f.fa) = 0) :
    Calls Tryz.prog 211 #[.pointer (some ⟨b, 0, none⟩), .pointer (some ⟨p, 0, none⟩)] w (VNo w p m k g cap (s.go 1 (rBitmap c f.fa) id) t d hd rv ev b 146 [.int .i64 f.fa, .int .i64 f.fi] ({ f with fu := s.old (rBitmap c f.fa) }) ⟨true, 2, 0⟩ [m, g, b]) := by
  have HC := Lib.hid hc
  have HU := Lib.hid hu
  clear hc hu
  have P0 := Lib.hid hp
  have B0 := Lib.hid h
  have hA := below_one w (.cells #[.pointer (some ⟨b, 0, none⟩)] 144)
  have hx0 := Blk.made w 144 #[.pointer (some ⟨b, 0, none⟩)]
  go_enter Tryz.func211, Tryz.ntmps211
  go_upto_region 1 with fail
  have hs1 : (w.alloc (.cells #[.pointer (some ⟨b, 0, none⟩)] 144)).heap.size = w.heap.size + 1 := by simp
  have hy0 := Blk.made (w.alloc (.cells #[.pointer (some ⟨b, 0, none⟩)] 144)) 31 #[.pointer (some ⟨p, 0, none⟩)]
  rw [hs1] at hy0
  have hx1 := hx0.alloc (.cells #[.pointer (some ⟨p, 0, none⟩)] 31)
  have hA2 := hA.alloc hA.size (.cells #[.pointer (some ⟨p, 0, none⟩)] 31)
  generalize (w.alloc (.cells #[.pointer (some ⟨b, 0, none⟩)] 144)).alloc (.cells #[.pointer (some ⟨p, 0, none⟩)] 31) = W1 at *
  have P1 := Lib.hid (P0.out.below hA2)
  have B1 := Lib.hid (B0.out.below hA2)
  have d0 : W1.cell? ⟨w.heap.size, 0, none⟩ = some (.pointer (some ⟨b, 0, none⟩)) := hx1.at_ 0
  have d1 : W1.cell? ⟨w.heap.size + 1, 0, none⟩ = some (.pointer (some ⟨p, 0, none⟩)) := hy0.at_ 0
  have lx := Lib.hid (And.intro hx1.lt hy0.lt)
  have HA := Lib.hid hA2
  have hc0 := lline_any B1.out
  rw [hln] at hc0
  have HC0 := Lib.hid hc0
  have N0 := Lib.hid (B0.out.ne P0.out)
  have L0 := Lib.hid (show b < w.heap.size ∧ m < w.heap.size ∧ g < w.heap.size from ⟨B0.out.blk.lt, P0.out.mem.blk.lt, P0.out.mem.row.lt⟩)
  clear hc0 hx1 hy0 hx0 hA hA2 hs1 hp h
  generalize hz : w.heap.size = z at *
  have HZ := Lib.hid hz
  clear hz
  go_wp2_with fail
  (with_reducible refine HC0.out.mono ?_)
  rintro e wx ⟨rfl, rfl⟩
  clear HC0
  go_upto_region 3 with fail
  have P2 := Lib.hid (P1.out.drewN 1)
  have B2 := Lib.hid B1.out.drew
  have HA2 := Lib.hid (below_drew HA.out)
  have y0 : W1.drew.cell? ⟨z, 0, none⟩ = some (.pointer (some ⟨b, 0, none⟩)) := d0
  have y1 : W1.drew.cell? ⟨z + 1, 0, none⟩ = some (.pointer (some ⟨p, 0, none⟩)) := d1
  have y2 : W1.drew.cell? ⟨p, 20, none⟩ = some (.pointer (some ⟨m, 0, none⟩)) := P2.out.at20
  go_region_held3 (fun w' => w'.cell? ⟨z, 0, none⟩ = some (.pointer (some ⟨b, 0, none⟩)) ∧ w'.cell? ⟨z + 1, 0, none⟩ = some (.pointer (some ⟨p, 0, none⟩)) ∧ w'.cell? ⟨p, 20, none⟩ = some (.pointer (some ⟨m, 0, none⟩))) ((first | exact ⟨a0, a1, a2⟩ | exact ⟨c0, c1, c2⟩ | exact ⟨y0, y1, y2⟩ | go_keep))
    (first
     | (go_at_call 203
        refine (lvbitmap_any P2.out hl hin B2.out.blk rfl).mono ?_
        rintro e w3 ⟨rfl, hb3⟩
        have lx3 := Lib.hid (show z < w3.heap.size ∧ z + 1 < w3.heap.size from ⟨Nat.lt_of_lt_of_le lx.out.1 hb3.size, Nat.lt_of_lt_of_le lx.out.2 hb3.size⟩)
        have c0 : w3.cell? ⟨z, 0, none⟩ = some (.pointer (some ⟨b, 0, none⟩)) := by rw [(bcell hb3).1 z 0 lx.out.1]; exact y0
        have c1 : w3.cell? ⟨z + 1, 0, none⟩ = some (.pointer (some ⟨p, 0, none⟩)) := by rw [(bcell hb3).1 (z + 1) 0 lx.out.2]; exact y1
        have c2 : w3.cell? ⟨p, 20, none⟩ = some (.pointer (some ⟨m, 0, none⟩)) := (P2.out.below hb3).at20
        have P3 := Lib.hid (P2.out.below hb3)
        have B3 := Lib.hid (B2.out.below hb3)
        have F3 := Lib.hid ((Fr.old (S := [m, g, b]) (show Below w.heap.size w W1.drew from HZ.out.symm ▸ HA2.out)).trans (Fr.old hb3))
        clear hb3)
     | (go_at_call 212
        refine (load_any P3.out.mem _).mono ?_
        rintro e w4 ⟨rfl, hm, hf⟩
        have n0 : z ∉ [m, g] := by simp only [List.mem_cons, List.not_mem_nil, or_false]; have := L0.out; omega
        have n1 : z + 1 ∉ [m, g] := by simp only [List.mem_cons, List.not_mem_nil, or_false]; have := L0.out; omega
        have a0 : w4.cell? ⟨z, 0, none⟩ = some (.pointer (some ⟨b, 0, none⟩)) := by rw [fr_cell hf lx3.out.1 n0]; exact c0
        have a1 : w4.cell? ⟨z + 1, 0, none⟩ = some (.pointer (some ⟨p, 0, none⟩)) := by rw [fr_cell hf lx3.out.2 n1]; exact c1
        have P4 := Lib.hid (P3.out.acc hm hf)
        have a2 := P4.out.at20
        have B4 := Lib.hid (B3.out.acc P3.out hf)
        have F4 := Lib.hid (F3.out.trans (hf.mono (by simp)))
        have lx4 := Lib.hid (show z < w4.heap.size ∧ z + 1 < w4.heap.size from ⟨Nat.lt_of_lt_of_le lx3.out.1 hf.size, Nat.lt_of_lt_of_le lx3.out.2 hf.size⟩)
        clear hm hf n0 n1))
  clear P1 B1 P2 B2 P3 B3 F3 y0 y1 y2 c0 c1 c2 d0 d1 a2
  have hc0 := HC.out
  rw [hc0]
  clear hc0
  go_wp2_with fail
  (with_reducible refine (lend_any B4.out 2 0).mono ?_)
  rintro e w5 ⟨rfl, hb5, hf5⟩
  have P5 := Lib.hid (P4.out.lown B4.out hf5)
  have F5 := Lib.hid (F4.out.trans (hf5.mono (by simp)))
  have B5 := Lib.hid hb5
  clear hb5 hf5 P4 B4 F4
  go_wp2
  go_ret
  exact ⟨rfl, P5.out, B5.out.ofln rfl, F5.out⟩
set_option maxRecDepth 100000 in
set_option maxHeartbeats 4000000 in
theorem lvpopper_1 (hp : PE w p m k g cap s t d hd rv ev) (hl : LayHd hd c) (hin : CfgIn c) (hu : uw (s.old (rBitmap c f.fa))) (h : LB w b 146 (.nilIface :: [.int .i64 f.fa, .int .i64 f.fi]) f 0 0) (hln : f.ln = 1) (hc : ¬ s.old (rBitmap c f.fa) = 0) :
    Calls Tryz.prog 211 #[.pointer (some ⟨b, 0, none⟩), .pointer (some ⟨p, 0, none⟩)] w (VNo w p m k g cap (s.go 1 (rBitmap c f.fa) id) t d hd rv ev b 146 [.int .i64 f.fa, .int .i64 (hiS (s.old (rBitmap c f.fa)).toNat)] ({ f with fu := s.old (rBitmap c f.fa), fi := hiS (s.old (rBitmap c f.fa)).toNat, ln := 2 }) .none [m, g, b]) := by
  have HC := Lib.hid hc
  have HU := Lib.hid hu
  clear hc hu
  have P0 := Lib.hid hp
  have B0 := Lib.hid h
  have hA := below_one w (.cells #[.pointer (some ⟨b, 0, none⟩)] 144)
  have hx0 := Blk.made w 144 #[.pointer (some ⟨b, 0, none⟩)]
  go_enter Tryz.func211, Tryz.ntmps211
  go_upto_region 1 with fail
  have hs1 : (w.alloc (.cells #[.pointer (some ⟨b, 0, none⟩)] 144)).heap.size = w.heap.size + 1 := by simp
  have hy0 := Blk.made (w.alloc (.cells #[.pointer (some ⟨b, 0, none⟩)] 144)) 31 #[.pointer (some ⟨p, 0, none⟩)]
  rw [hs1] at hy0
  have hx1 := hx0.alloc (.cells #[.pointer (some ⟨p, 0, none⟩)] 31)
  have hA2 := hA.alloc hA.size (.cells #[.pointer (some ⟨p, 0, none⟩)] 31)
  generalize (w.alloc (.cells #[.pointer (some ⟨b, 0, none⟩)] 144)).alloc (.cells #[.pointer (some ⟨p, 0, none⟩)] 31) = W1 at *
  have P1 := Lib.hid (P0.out.below hA2)
  have B1 := Lib.hid (B0.out.below hA2)
  have d0 : W1.cell? ⟨w.heap.size, 0, none⟩ = some (.pointer (some ⟨b, 0, none⟩)) := hx1.at_ 0
  have d1 : W1.cell? ⟨w.heap.size + 1, 0, none⟩ = some (.pointer (some ⟨p, 0, none⟩)) := hy0.at_ 0
  have lx := Lib.hid (And.intro hx1.lt hy0.lt)
  have HA := Lib.hid hA2
  have hc0 := lline_any B1.out
  rw [hln] at hc0
  have HC0 := Lib.hid hc0
  have N0 := Lib.hid (B0.out.ne P0.out)
  have L0 := Lib.hid (show b < w.heap.size ∧ m < w.heap.size ∧ g < w.heap.size from ⟨B0.out.blk.lt, P0.out.mem.blk.lt, P0.out.mem.row.lt⟩)
  clear hc0 hx1 hy0 hx0 hA hA2 hs1 hp h
  generalize hz : w.heap.size = z at *
  have HZ := Lib.hid hz
  clear hz
  go_wp2_with fail
  (with_reducible refine HC0.out.mono ?_)
  rintro e wx ⟨rfl, rfl⟩
  clear HC0
  go_upto_region 3 with fail
  have P2 := Lib.hid (P1.out.drewN 1)
  have B2 := Lib.hid B1.out.drew
  have HA2 := Lib.hid (below_drew HA.out)
  have y0 : W1.drew.cell? ⟨z, 0, none⟩ = some (.pointer (some ⟨b, 0, none⟩)) := d0
  have y1 : W1.drew.cell? ⟨z + 1, 0, none⟩ = some (.pointer (some ⟨p, 0, none⟩)) := d1
  have y2 : W1.drew.cell? ⟨p, 20, none⟩ = some (.pointer (some ⟨m, 0, none⟩)) := P2.out.at20
  go_region_held3 (fun w' => w'.cell? ⟨z, 0, none⟩ = some (.pointer (some ⟨b, 0, none⟩)) ∧ w'.cell? ⟨z + 1, 0, none⟩ = some (.pointer (some ⟨p, 0, none⟩)) ∧ w'.cell? ⟨p, 20, none⟩ = some (.pointer (some ⟨m, 0, none⟩))) ((first | exact ⟨a0, a1, a2⟩ | exact ⟨c0, c1, c2⟩ | exact ⟨y0, y1, y2⟩ | go_keep))
    (first
     | (go_at_call 203
        refine (lvbitmap_any P2.out hl hin B2.out.blk rfl).mono ?_
        rintro e w3 ⟨rfl, hb3⟩
        have lx3 := Lib.hid (show z < w3.heap.size ∧ z + 1 < w3.heap.size from ⟨Nat.lt_of_lt_of_le lx.out.1 hb3.size, Nat.lt_of_lt_of_le lx.out.2 hb3.size⟩)
        have c0 : w3.cell? ⟨z, 0, none⟩ = some (.pointer (some ⟨b, 0, none⟩)) := by rw [(bcell hb3).1 z 0 lx.out.1]; exact y0
        have c1 : w3.cell? ⟨z + 1, 0, none⟩ = some (.pointer (some ⟨p, 0, none⟩)) := by rw [(bcell hb3).1 (z + 1) 0 lx.out.2]; exact y1
        have c2 : w3.cell? ⟨p, 20, none⟩ = some (.pointer (some ⟨m, 0, none⟩)) := (P2.out.below hb3).at20
        have P3 := Lib.hid (P2.out.below hb3)
        have B3 := Lib.hid (B2.out.below hb3)
        have F3 := Lib.hid ((Fr.old (S := [m, g, b]) (show Below w.heap.size w W1.drew from HZ.out.symm ▸ HA2.out)).trans (Fr.old hb3))
        clear hb3)
     | (go_at_call 212
        refine (load_any P3.out.mem _).mono ?_
        rintro e w4 ⟨rfl, hm, hf⟩
        have n0 : z ∉ [m, g] := by simp only [List.mem_cons, List.not_mem_nil, or_false]; have := L0.out; omega
        have n1 : z + 1 ∉ [m, g] := by simp only [List.mem_cons, List.not_mem_nil, or_false]; have := L0.out; omega
        have a0 : w4.cell? ⟨z, 0, none⟩ = some (.pointer (some ⟨b, 0, none⟩)) := by rw [fr_cell hf lx3.out.1 n0]; exact c0
        have a1 : w4.cell? ⟨z + 1, 0, none⟩ = some (.pointer (some ⟨p, 0, none⟩)) := by rw [fr_cell hf lx3.out.2 n1]; exact c1
        have P4 := Lib.hid (P3.out.acc hm hf)
        have a2 := P4.out.at20
        have B4 := Lib.hid (B3.out.acc P3.out hf)
        have F4 := Lib.hid (F3.out.trans (hf.mono (by simp)))
        have lx4 := Lib.hid (show z < w4.heap.size ∧ z + 1 < w4.heap.size from ⟨Nat.lt_of_lt_of_le lx3.out.1 hf.size, Nat.lt_of_lt_of_le lx3.out.2 hf.size⟩)
        clear hm hf n0 n1))
  clear P1 B1 P2 B2 P3 B3 F3 y0 y1 y2 c0 c1 c2 d0 d1 a2
  obtain ⟨N, hN⟩ : ∃ N : Nat, s.old (rBitmap c f.fa) = (N : Int) := ⟨(s.old (rBitmap c f.fa)).toNat, by have := HU.out.1; omega⟩
  have hN64 : N < 18446744073709551616 := by have := HU.out.2; omega
  have hne : ((N : Int) == 0) = false := by have := HC.out; rw [hN] at this; simpa using this
  have HN := Lib.hid hN
  rw [hN]
  clear hN
  go_upto_region 6 with fail
  have z0 : w4.drew.cell? ⟨z, 0, none⟩ = some (.pointer (some ⟨b, 0, none⟩)) := a0
  have z1 : w4.drew.cell? ⟨b, 5, none⟩ = some (.int .i64 f.fi) := by rw [show w4.drew.cell? ⟨b, 5, none⟩ = w4.cell? ⟨b, 5, none⟩ from rfl, B4.out.blk.at_]; rfl
  have z2 : w4.drew.frozen? ⟨b, 5, none⟩ = false := B4.out.blk.free 5
  have KH := Lib.hid (fun W => high_any N hN64 W)
  have P5 := Lib.hid (P4.out.drewN 1)
  have B5 := Lib.hid B4.out.drew
  have F5 := Lib.hid F4.out.drew
  have lx5 : z < w4.drew.heap.size := lx4.out.1
  have hzb : z ≠ b := by have := L0.out; omega
  clear P4 B4 F4 hne
  have hT : hiS (s.old (rBitmap c f.fa)).toNat = hiS N := by rw [HN.out, Int.toNat_natCast]
  have HT := Lib.hid hT
  clear hT
  go_region_held3 (fun w' => w'.cell? ⟨z, 0, none⟩ = some (.pointer (some ⟨b, 0, none⟩))) ((first | exact v0 | exact u0 | exact z0 | go_keep))
    ((go_at_call 213
      refine (KH.out _).mono ?_
      rintro e w6 ⟨rfl, rfl⟩
      have u0 : w4.drew.cell? ⟨z, 0, none⟩ = some (.pointer (some ⟨b, 0, none⟩)) := z0
      have v0 : (w4.drew.setCell ⟨b, 5, none⟩ (.int .i64 (hiS N))).cell? ⟨z, 0, none⟩ = some (.pointer (some ⟨b, 0, none⟩)) := by rw [World.cell?_setCell_other _ _ _ _ (by simp [hzb])]; exact z0))
  have hfs : Fr [b] w4.drew (w4.drew.setCell ⟨b, 5, none⟩ (.int .i64 (hiS N))) := (Fr.refl _ _).setCell (by simp) _
  have P6 := Lib.hid (P5.out.lown B5.out hfs)
  have B6 := Lib.hid (B5.out.put5 (.int .i64 (hiS N)))
  have F6 := Lib.hid (F5.out.trans (hfs.mono (by simp)))
  have e0 := v0
  clear P5 B5 F5 hfs z0 z1 z2 KH v0 u0
  have hW : w4.drew.setCell ⟨b, 5, none⟩ (.int .i64 (hiS N)) = (w4.setCell ⟨b, 5, none⟩ (.int .i64 (hiS N))).drew := rfl
  generalize w4.drew.setCell ⟨b, 5, none⟩ (.int .i64 (hiS N)) = w7 at *
  rw [← hW]
  clear hW
  go_wp2_with fail
  (with_reducible refine (lnext_any B6.out 2).mono ?_)
  rintro e w8 ⟨rfl, hb8, hf8⟩
  have P8 := Lib.hid (P6.out.lown B6.out hf8)
  have B8 := Lib.hid hb8
  have F8 := Lib.hid (F6.out.trans (hf8.mono (by simp)))
  clear hb8 hf8 P6 B6 F6
  go_wp2
  go_ret
  refine ⟨rfl, P8.out, ?_, F8.out⟩
  rw [HT.out]
  exact B8.out.ofln rfl
end
end Go.Proofs.YtheimjcgpbmecaaGreat

namespace Go.Proofs.YtheimjcgpbmecaaGreat
open Go Go.RowKit
set_option linter.unusedSimpArgs false

/-- The frame of the machine that the present line of a frame runs: kind 5 is Push (worker fa, level fb, value fd), kind 6 Pop (worker fa, level fi). -/
def lvChild (c : Cfg) (f : Fra) : Fra :=
  if f.kd = 5 then
    if f.ln = 1 then fra1 0 (rQueue c f.fa f.fb).1 (rQueue c f.fa f.fb).2.1 (rQueue c f.fa f.fb).2.2.1 (rQueue c f.fa f.fb).2.2.2 f.fd
    else { fra1 3 0 0 0 0 (rBitmap c f.fa) with fb := f.fb }
  else if f.ln = 2 then fra1 1 (rQueue c f.fa f.fi).1 (rQueue c f.fa f.fi).2.1 (rQueue c f.fa f.fi).2.2.1 (rQueue c f.fa f.fi).2.2.2 0
  else { fra1 4 (rQueue c f.fa f.fi).1 (rQueue c f.fa f.fi).2.1 (rQueue c f.fa f.fi).2.2.1 (rQueue c f.fa f.fi).2.2.2 (rBitmap c f.fa) with fb := f.fi }
/-- A line of one of these. -/
def lvK (s : St) (g : Fra) : St × Fra × Res := if g.kd = 0 then pushS s g else if g.kd = 1 then popS s g else if g.kd = 3 then setS s g else clearS s g
/-- What a frame does with its result. -/
def lvBack (f : Fra) (cd vl : Int) : Fra × Res :=
  if f.kd = 5 then (if f.ln = 2 ∨ cd = 3 then (f, ⟨true, cd, 0⟩) else ({ f with ln := 2 }, .none))
  else if f.ln = 3 then ({ f with ln := 1 }, .none)
  else if cd = 1 then (f, ⟨true, 1, vl⟩) else ({ f with ln := 3 }, .none)
/-- A step of a machine: its frame, and that of the machine that its line runs, if it has begun. -/
def lvS (c : Cfg) (s : St) (x : Fra × Option Fra) : St × (Fra × Option Fra) × Res :=
  if x.1.kd = 6 ∧ x.1.ln = 1 then
    if s.old (rBitmap c x.1.fa) = 0 then (s.go 1 (rBitmap c x.1.fa) id, ({ x.1 with fu := s.old (rBitmap c x.1.fa) }, none), ⟨true, 2, 0⟩)
    else (s.go 1 (rBitmap c x.1.fa) id, ({ x.1 with fu := s.old (rBitmap c x.1.fa), fi := hiS (s.old (rBitmap c x.1.fa)).toNat, ln := 2 }, none), .none)
  else
    if (lvK s (x.2.getD (lvChild c x.1))).2.2.dn = true then
      ((lvK s (x.2.getD (lvChild c x.1))).1, ((lvBack x.1 (lvK s (x.2.getD (lvChild c x.1))).2.2.cd (lvK s (x.2.getD (lvChild c x.1))).2.2.vl).1, none), (lvBack x.1 (lvK s (x.2.getD (lvChild c x.1))).2.2.cd (lvK s (x.2.getD (lvChild c x.1))).2.2.vl).2)
    else ((lvK s (x.2.getD (lvChild c x.1))).1, (x.1, some (lvK s (x.2.getD (lvChild c x.1))).2.1), .none)

/-- The steps of a machine until it is done: the state behind them, the result, how many there are. -/
inductive RunM {M : Type} (stp : St → M → St × M × Res) : St → M → St → Res → Nat → Prop
  | last {s : St} {x : M} : (stp s x).2.2.dn = true → RunM stp s x (stp s x).1 (stp s x).2.2 1
  | cons {s s' : St} {x : M} {r : Res} {n : Nat} : (stp s x).2.2.dn = false → RunM stp (stp s x).1 (stp s x).2.1 s' r n → RunM stp s x s' r (n + 1)
theorem RunM.of_runS {stp : St → Fra → St × Fra × Res} : ∀ {n : Nat} {s s' : St} {f : Fra} {r : Res} {N : Nat}, runS stp n s f = some (s', r, N) → RunM stp s f s' r N
  | 0, _, _, _, _, _, h => by simp [runS] at h
  | n + 1, s, s', f, r, N, h => by
    cases hd : (stp s f).2.2.dn with
    | true =>
      obtain ⟨e1, e2, e3⟩ := runS_end h hd
      rw [← e1, ← e2, e3]
      exact .last hd
    | false =>
      obtain ⟨M, e1, e2⟩ := runS_on h hd
      rw [e2]
      exact .cons hd (RunM.of_runS e1)
/-- The lines of a kind, as lvK has them. -/
theorem RunM.k {stp : St → Fra → St × Fra × Res} {kd : Int} (hk : ∀ s f, f.kd = kd → lvK s f = stp s f) (hq : ∀ s f, (stp s f).2.1.kd = f.kd) {s s' : St} {f : Fra} {r : Res} {N : Nat} (h : RunM stp s f s' r N) : f.kd = kd → RunM lvK s f s' r N := by
  induction h with
  | @last s f h1 =>
    intro hf
    have h1' := h1
    rw [← hk s f hf] at h1' ⊢
    exact RunM.last h1'
  | @cons s s' f r n h1 h2 ih =>
    intro hf
    have h3 := ih (by rw [hq]; exact hf)
    rw [← hk s f hf] at h1 h3
    exact RunM.cons h1 h3
theorem lvK_push (s : St) (f : Fra) (h : f.kd = 0) : lvK s f = pushS s f := by unfold lvK; rw [if_pos h]
theorem lvK_pop (s : St) (f : Fra) (h : f.kd = 1) : lvK s f = popS s f := by unfold lvK; rw [if_neg (by omega), if_pos h]
theorem lvK_set (s : St) (f : Fra) (h : f.kd = 3) : lvK s f = setS s f := by unfold lvK; rw [if_neg (by omega), if_neg (by omega), if_pos h]
theorem lvK_clear (s : St) (f : Fra) (h : f.kd = 4) : lvK s f = clearS s f := by unfold lvK; rw [if_neg (by omega), if_neg (by omega), if_neg (by omega)]
/-- A machine whose inner one runs to its end, and what follows. -/
theorem lvS_in {c : Cfg} {s : St} {f : Fra} {g : Option Fra} (h : ¬ (f.kd = 6 ∧ f.ln = 1)) (hd : (lvK s (g.getD (lvChild c f))).2.2.dn = false) : lvS c s (f, g) = ((lvK s (g.getD (lvChild c f))).1, (f, some (lvK s (g.getD (lvChild c f))).2.1), .none) := by
  unfold lvS
  rw [if_neg h, if_neg (by rw [hd]; decide)]
theorem lvS_out {c : Cfg} {s : St} {f : Fra} {g : Option Fra} (h : ¬ (f.kd = 6 ∧ f.ln = 1)) (hd : (lvK s (g.getD (lvChild c f))).2.2.dn = true) : lvS c s (f, g) = ((lvK s (g.getD (lvChild c f))).1, ((lvBack f (lvK s (g.getD (lvChild c f))).2.2.cd (lvK s (g.getD (lvChild c f))).2.2.vl).1, none), (lvBack f (lvK s (g.getD (lvChild c f))).2.2.cd (lvK s (g.getD (lvChild c f))).2.2.vl).2) := by
  unfold lvS
  rw [if_neg h, if_pos hd]
theorem RunM.end_ {c : Cfg} {f : Fra} (h : ¬ (f.kd = 6 ∧ f.ln = 1)) {s s' : St} {x : Fra} {r : Res} {N : Nat} (hr : RunM lvK s x s' r N) : ∀ g : Option Fra, g.getD (lvChild c f) = x → (lvBack f r.cd r.vl).2.dn = true → RunM (lvS c) s (f, g) s' (lvBack f r.cd r.vl).2 N := by
  induction hr with
  | @last s x h1 =>
    intro g hg hb
    subst hg
    have e := lvS_out (c := c) (s := s) (g := g) h h1
    have h2 := RunM.last (stp := lvS c) (s := s) (x := (f, g)) (by rw [e]; exact hb)
    rw [e] at h2
    exact h2
  | @cons s s' x r n h1 h2 ih =>
    intro g hg hb
    subst hg
    have e := lvS_in (c := c) (s := s) (g := g) h h1
    have h3 := ih (some (lvK s (g.getD (lvChild c f))).2.1) rfl hb
    refine RunM.cons (by rw [e]) ?_
    rw [e]
    exact h3
theorem RunM.next {c : Cfg} {f : Fra} (h : ¬ (f.kd = 6 ∧ f.ln = 1)) {s s' : St} {x : Fra} {r : Res} {N : Nat} (hr : RunM lvK s x s' r N) : ∀ g : Option Fra, g.getD (lvChild c f) = x → (lvBack f r.cd r.vl).2.dn = false → ∀ {s2 : St} {r2 : Res} {N2 : Nat}, RunM (lvS c) s' ((lvBack f r.cd r.vl).1, none) s2 r2 N2 → RunM (lvS c) s (f, g) s2 r2 (N2 + N) := by
  induction hr with
  | @last s x h1 =>
    intro g hg hb s2 r2 N2 h2
    subst hg
    have e := lvS_out (c := c) (s := s) (g := g) h h1
    refine RunM.cons (by rw [e]; exact hb) ?_
    rw [e]
    exact h2
  | @cons s s' x r n h1 h2 ih =>
    intro g hg hb s2 r2 N2 h5
    subst hg
    have e := lvS_in (c := c) (s := s) (g := g) h h1
    have h3 := ih (some (lvK s (g.getD (lvChild c f))).2.1) rfl hb h5
    refine RunM.cons (n := N2 + n) (by rw [e]) ?_
    rw [e]
    exact h3
theorem lvS_top0 {c : Cfg} {s : St} {f : Fra} {g : Option Fra} (hk : f.kd = 6) (hl : f.ln = 1) (hz : s.old (rBitmap c f.fa) = 0) : lvS c s (f, g) = (s.go 1 (rBitmap c f.fa) id, ({ f with fu := s.old (rBitmap c f.fa) }, none), ⟨true, 2, 0⟩) := by
  unfold lvS
  rw [if_pos ⟨hk, hl⟩, if_pos hz]
theorem lvS_top {c : Cfg} {s : St} {f : Fra} {g : Option Fra} (hk : f.kd = 6) (hl : f.ln = 1) (hz : ¬ s.old (rBitmap c f.fa) = 0) : lvS c s (f, g) = (s.go 1 (rBitmap c f.fa) id, ({ f with fu := s.old (rBitmap c f.fa), fi := hiS (s.old (rBitmap c f.fa)).toNat, ln := 2 }, none), .none) := by
  unfold lvS
  rw [if_pos ⟨hk, hl⟩, if_neg hz]
end Go.Proofs.YtheimjcgpbmecaaGreat

namespace Go.Proofs.YtheimjcgpbmecaaGreat
open Go Go.RowKit
set_option linter.unusedSimpArgs false

/-- The cell of an index, in a deque from cell 2 on. -/
theorem ring2 (n : Nat) (hn : 1 ≤ n ∧ n ≤ 100) (i : Int) : ∃ r : Nat, r < n ∧ (r : Int) = i % n ∧ ringI 2 n i = ((2 + r : Nat) : Int) := by
  have h1 := Int.emod_nonneg i (show (n : Int) ≠ 0 by omega)
  have h2 := Int.emod_lt_of_pos i (show (0 : Int) < n by omega)
  refine ⟨(i % n).toNat, by omega, by omega, ?_⟩
  unfold ringI
  rw [if_neg (by omega)]
  unfold wrap64
  omega
/-- The words X are those of a deque whose indices begin with t, and which has the words l as entries. -/
structure DqX (X : List Int) (n t : Nat) (l : List Int) : Prop where
  top : X.getD 0 0 = t
  ent : ∀ i, i < l.length → X.getD (2 + (t + i) % n) 0 = l.getD i 0
theorem mod_ne {n a b : Nat} (h : a < b) (h' : b < a + n) : a % n ≠ b % n := by
  intro e
  have h1 := Nat.div_add_mod a n
  have h2 := Nat.div_add_mod b n
  have h3 : n * (b / n) = n * (a / n) + (b - a) := by omega
  have h4 : a / n < b / n := by
    rcases Nat.lt_or_ge (a / n) (b / n) with h | h
    · exact h
    · have := Nat.mul_le_mul_left n h
      omega
  have h5 : n * (a / n + 1) ≤ n * (b / n) := Nat.mul_le_mul_left n h4
  rw [Nat.mul_add] at h5
  omega
theorem DqX.put {X : List Int} {n t : Nat} {l : List Int} (h : DqX X n t l) (hX : X.length = n + 3) (hn : 1 ≤ n) (hl : l.length < n) (v : Int) : DqX (X.set (2 + (t + l.length) % n) v) n t (l ++ [v]) := by
  have hm := Nat.mod_lt (t + l.length) (show n > 0 by omega)
  refine ⟨?_, fun i hi => ?_⟩
  · rw [List.getD_eq_getElem?_getD, List.getElem?_set_ne (by omega), ← List.getD_eq_getElem?_getD]
    exact h.top
  · rw [List.length_append] at hi
    simp only [List.length_cons, List.length_nil, Nat.zero_add] at hi
    by_cases hil : i < l.length
    · have hne := mod_ne (n := n) (a := t + i) (b := t + l.length) (by omega) (by omega)
      rw [List.getD_eq_getElem?_getD, List.getElem?_set_ne (by omega), ← List.getD_eq_getElem?_getD, h.ent i hil, List.getD_eq_getElem?_getD, List.getD_eq_getElem?_getD, List.getElem?_append_left hil]
    · obtain rfl : i = l.length := by omega
      rw [List.getD_eq_getElem?_getD, List.getElem?_set_self (by omega), List.getD_eq_getElem?_getD, List.getElem?_append_right (Nat.le_refl _), Nat.sub_self]
      rfl

end Go.Proofs.YtheimjcgpbmecaaGreat
