/-
  Package levels: the first line of Pop.
-/
import Derived.Test.YtmoblcfjplolgaaLvS
import Derived.Test.YtmoblcfjplolgaaMgAV
namespace Go.Proofs.Ytmoblcfjplolgaa
open Go Go.RowKit Go.Shelf
set_option linter.unusedSimpArgs false
set_option linter.unusedVariables false
section
variable {w w' : World} {p m k g cap : Nat} {s : St} {t d : Int} {hd : List Value} {rv ev : Value} {c : Cfg} {b : Nat} {f x : Fra}
/-- Cell 5 of a machine of Pop: its level. -/
theorem LB.put5 {ty : TypeId} {cd vl : Int} {u a0 a1 : Value} (h : LB w b ty [u, a0, a1] f cd vl) (v : Value) : LB (w.setCell ⟨b, 5, none⟩ v) b ty [u, a0, v] f cd vl := by
  refine ⟨?_, h.t1, h.t2, h.t3, h.t4⟩
  have hb := h.blk.put 5 v
  simp only [List.cons_append, List.nil_append, List.setIfInBounds_toArray, List.set_cons_zero, List.set_cons_succ] at hb
  exact hb
theorem LB.ofln {ty : TypeId} {post : List Value} {cd vl : Int} {q : Nat} {f' : Fra} (h : LB w q ty post f cd vl) (e : f'.ln = f.ln) : LB w q ty post f' cd vl := by
  refine ⟨?_, h.t1, h.t2, h.t3, h.t4⟩
  have hb := h.blk
  simp only [lncells] at hb ⊢
  rw [e]
  exact hb
set_option maxRecDepth 100000 in
set_option maxHeartbeats 4000000 in
theorem lvpopper_1e (hp : PE w p m k g cap s t d hd rv ev) (hl : LayHd hd c) (hin : CfgIn c) (hu : uw (s.old (rBitmap c f.fa))) (h : LB w b 85 (.nilIface :: [.int .i64 f.fa, .int .i64 f.fi]) f 0 0) (hln : f.ln = 1) (hc : s.old (rBitmap c f.fa) = 0) :
    Calls Try.prog 87 #[.pointer (some ⟨b, 0, none⟩), .pointer (some ⟨p, 0, none⟩)] w (VNo w p m k g cap (s.go 1 (rBitmap c f.fa) id) t d hd rv ev b 85 [.int .i64 f.fa, .int .i64 f.fi] ({ f with fu := s.old (rBitmap c f.fa) }) ⟨true, 2, 0⟩ [m, g, b]) := by
  have HC := Lib.hid hc
  have HU := Lib.hid hu
  clear hc hu
  have P0 := Lib.hid hp
  have B0 := Lib.hid h
  have hA := below_one w (.cells #[.pointer (some ⟨b, 0, none⟩)] 83)
  have hx0 := Blk.made w 83 #[.pointer (some ⟨b, 0, none⟩)]
  go_enter Try.func87, Try.ntmps87
  go_upto_region 1 with fail
  have hs1 : (w.alloc (.cells #[.pointer (some ⟨b, 0, none⟩)] 83)).heap.size = w.heap.size + 1 := by simp
  have hy0 := Blk.made (w.alloc (.cells #[.pointer (some ⟨b, 0, none⟩)] 83)) 23 #[.pointer (some ⟨p, 0, none⟩)]
  rw [hs1] at hy0
  have hx1 := hx0.alloc (.cells #[.pointer (some ⟨p, 0, none⟩)] 23)
  have hA2 := hA.alloc hA.size (.cells #[.pointer (some ⟨p, 0, none⟩)] 23)
  generalize (w.alloc (.cells #[.pointer (some ⟨b, 0, none⟩)] 83)).alloc (.cells #[.pointer (some ⟨p, 0, none⟩)] 23) = W1 at *
  have P1 := Lib.hid (P0.out.below hA2)
  have B1 := Lib.hid (B0.out.below hA2)
  have d0 : W1.cell? ⟨w.heap.size, 0, none⟩ = some (.pointer (some ⟨b, 0, none⟩)) := hx1.at_ 0
  have d1 : W1.cell? ⟨w.heap.size + 1, 0, none⟩ = some (.pointer (some ⟨p, 0, none⟩)) := hy0.at_ 0
  have lx := Lib.hid (And.intro hx1.lt hy0.lt)
  have HA := Lib.hid hA2
  have hc0 := lline_any B1.out
  rw [hln] at hc0
  have HC0 := Lib.hid hc0
  have N0 := Lib.hid (B0.out.ne P0.out)
  have L0 := Lib.hid (show b < w.heap.size ∧ m < w.heap.size ∧ g < w.heap.size from ⟨B0.out.blk.lt, P0.out.mem.blk.lt, P0.out.mem.row.lt⟩)
  clear hc0 hx1 hy0 hx0 hA hA2 hs1 hp h
  generalize hz : w.heap.size = z at *
  have HZ := Lib.hid hz
  clear hz
  go_wp2_with fail
  (with_reducible refine HC0.out.mono ?_)
  rintro e wx ⟨rfl, rfl⟩
  clear HC0
  go_upto_region 3 with fail
  have P2 := Lib.hid (P1.out.drewN 1)
  have B2 := Lib.hid B1.out.drew
  have HA2 := Lib.hid (below_drew HA.out)
  have y0 : W1.drew.cell? ⟨z, 0, none⟩ = some (.pointer (some ⟨b, 0, none⟩)) := d0
  have y1 : W1.drew.cell? ⟨z + 1, 0, none⟩ = some (.pointer (some ⟨p, 0, none⟩)) := d1
  have y2 : W1.drew.cell? ⟨p, 20, none⟩ = some (.pointer (some ⟨m, 0, none⟩)) := P2.out.at20
  go_region_held3 (fun w' => w'.cell? ⟨z, 0, none⟩ = some (.pointer (some ⟨b, 0, none⟩)) ∧ w'.cell? ⟨z + 1, 0, none⟩ = some (.pointer (some ⟨p, 0, none⟩)) ∧ w'.cell? ⟨p, 20, none⟩ = some (.pointer (some ⟨m, 0, none⟩))) ((first | exact ⟨a0, a1, a2⟩ | exact ⟨c0, c1, c2⟩ | exact ⟨y0, y1, y2⟩ | go_keep))
    (first
     | (go_at_call 79
        refine (lvbitmap_any P2.out hl hin B2.out.blk rfl).mono ?_
        rintro e w3 ⟨rfl, hb3⟩
        have lx3 := Lib.hid (show z < w3.heap.size ∧ z + 1 < w3.heap.size from ⟨Nat.lt_of_lt_of_le lx.out.1 hb3.size, Nat.lt_of_lt_of_le lx.out.2 hb3.size⟩)
        have c0 : w3.cell? ⟨z, 0, none⟩ = some (.pointer (some ⟨b, 0, none⟩)) := by rw [(bcell hb3).1 z 0 lx.out.1]; exact y0
        have c1 : w3.cell? ⟨z + 1, 0, none⟩ = some (.pointer (some ⟨p, 0, none⟩)) := by rw [(bcell hb3).1 (z + 1) 0 lx.out.2]; exact y1
        have c2 : w3.cell? ⟨p, 20, none⟩ = some (.pointer (some ⟨m, 0, none⟩)) := (P2.out.below hb3).at20
        have P3 := Lib.hid (P2.out.below hb3)
        have B3 := Lib.hid (B2.out.below hb3)
        have F3 := Lib.hid ((Fr.old (S := [m, g, b]) (show Below w.heap.size w W1.drew from HZ.out.symm ▸ HA2.out)).trans (Fr.old hb3))
        clear hb3)
     | (go_at_call 88
        refine (load_any P3.out.mem _).mono ?_
        rintro e w4 ⟨rfl, hm, hf⟩
        have n0 : z ∉ [m, g] := by simp only [List.mem_cons, List.not_mem_nil, or_false]; have := L0.out; omega
        have n1 : z + 1 ∉ [m, g] := by simp only [List.mem_cons, List.not_mem_nil, or_false]; have := L0.out; omega
        have a0 : w4.cell? ⟨z, 0, none⟩ = some (.pointer (some ⟨b, 0, none⟩)) := by rw [fr_cell hf lx3.out.1 n0]; exact c0
        have a1 : w4.cell? ⟨z + 1, 0, none⟩ = some (.pointer (some ⟨p, 0, none⟩)) := by rw [fr_cell hf lx3.out.2 n1]; exact c1
        have P4 := Lib.hid (P3.out.acc hm hf)
        have a2 := P4.out.at20
        have B4 := Lib.hid (B3.out.acc P3.out hf)
        have F4 := Lib.hid (F3.out.trans (hf.mono (by simp)))
        have lx4 := Lib.hid (show z < w4.heap.size ∧ z + 1 < w4.heap.size from ⟨Nat.lt_of_lt_of_le lx3.out.1 hf.size, Nat.lt_of_lt_of_le lx3.out.2 hf.size⟩)
        clear hm hf n0 n1))
  clear P1 B1 P2 B2 P3 B3 F3 y0 y1 y2 c0 c1 c2 d0 d1 a2
  have hc0 := HC.out
  rw [hc0]
  clear hc0
  go_wp2_with fail
  (with_reducible refine (lend_any B4.out 2 0).mono ?_)
  rintro e w5 ⟨rfl, hb5, hf5⟩
  have P5 := Lib.hid (P4.out.lown B4.out hf5)
  have F5 := Lib.hid (F4.out.trans (hf5.mono (by simp)))
  have B5 := Lib.hid hb5
  clear hb5 hf5 P4 B4 F4
  go_wp2
  go_ret
  exact ⟨rfl, P5.out, B5.out.ofln rfl, F5.out⟩
set_option maxRecDepth 100000 in
set_option maxHeartbeats 4000000 in
theorem lvpopper_1 (hp : PE w p m k g cap s t d hd rv ev) (hl : LayHd hd c) (hin : CfgIn c) (hu : uw (s.old (rBitmap c f.fa))) (h : LB w b 85 (.nilIface :: [.int .i64 f.fa, .int .i64 f.fi]) f 0 0) (hln : f.ln = 1) (hc : ¬ s.old (rBitmap c f.fa) = 0) :
    Calls Try.prog 87 #[.pointer (some ⟨b, 0, none⟩), .pointer (some ⟨p, 0, none⟩)] w (VNo w p m k g cap (s.go 1 (rBitmap c f.fa) id) t d hd rv ev b 85 [.int .i64 f.fa, .int .i64 (hiS (s.old (rBitmap c f.fa)).toNat)] ({ f with fu := s.old (rBitmap c f.fa), fi := hiS (s.old (rBitmap c f.fa)).toNat, ln := 2 }) .none [m, g, b]) := by
  have HC := Lib.hid hc
  have HU := Lib.hid hu
  clear hc hu
  have P0 := Lib.hid hp
  have B0 := Lib.hid h
  have hA := below_one w (.cells #[.pointer (some ⟨b, 0, none⟩)] 83)
  have hx0 := Blk.made w 83 #[.pointer (some ⟨b, 0, none⟩)]
  go_enter Try.func87, Try.ntmps87
  go_upto_region 1 with fail
  have hs1 : (w.alloc (.cells #[.pointer (some ⟨b, 0, none⟩)] 83)).heap.size = w.heap.size + 1 := by simp
  have hy0 := Blk.made (w.alloc (.cells #[.pointer (some ⟨b, 0, none⟩)] 83)) 23 #[.pointer (some ⟨p, 0, none⟩)]
  rw [hs1] at hy0
  have hx1 := hx0.alloc (.cells #[.pointer (some ⟨p, 0, none⟩)] 23)
  have hA2 := hA.alloc hA.size (.cells #[.pointer (some ⟨p, 0, none⟩)] 23)
  generalize (w.alloc (.cells #[.pointer (some ⟨b, 0, none⟩)] 83)).alloc (.cells #[.pointer (some ⟨p, 0, none⟩)] 23) = W1 at *
  have P1 := Lib.hid (P0.out.below hA2)
  have B1 := Lib.hid (B0.out.below hA2)
  have d0 : W1.cell? ⟨w.heap.size, 0, none⟩ = some (.pointer (some ⟨b, 0, none⟩)) := hx1.at_ 0
  have d1 : W1.cell? ⟨w.heap.size + 1, 0, none⟩ = some (.pointer (some ⟨p, 0, none⟩)) := hy0.at_ 0
  have lx := Lib.hid (And.intro hx1.lt hy0.lt)
  have HA := Lib.hid hA2
  have hc0 := lline_any B1.out
  rw [hln] at hc0
  have HC0 := Lib.hid hc0
  have N0 := Lib.hid (B0.out.ne P0.out)
  have L0 := Lib.hid (show b < w.heap.size ∧ m < w.heap.size ∧ g < w.heap.size from ⟨B0.out.blk.lt, P0.out.mem.blk.lt, P0.out.mem.row.lt⟩)
  clear hc0 hx1 hy0 hx0 hA hA2 hs1 hp h
  generalize hz : w.heap.size = z at *
  have HZ := Lib.hid hz
  clear hz
  go_wp2_with fail
  (with_reducible refine HC0.out.mono ?_)
  rintro e wx ⟨rfl, rfl⟩
  clear HC0
  go_upto_region 3 with fail
  have P2 := Lib.hid (P1.out.drewN 1)
  have B2 := Lib.hid B1.out.drew
  have HA2 := Lib.hid (below_drew HA.out)
  have y0 : W1.drew.cell? ⟨z, 0, none⟩ = some (.pointer (some ⟨b, 0, none⟩)) := d0
  have y1 : W1.drew.cell? ⟨z + 1, 0, none⟩ = some (.pointer (some ⟨p, 0, none⟩)) := d1
  have y2 : W1.drew.cell? ⟨p, 20, none⟩ = some (.pointer (some ⟨m, 0, none⟩)) := P2.out.at20
  go_region_held3 (fun w' => w'.cell? ⟨z, 0, none⟩ = some (.pointer (some ⟨b, 0, none⟩)) ∧ w'.cell? ⟨z + 1, 0, none⟩ = some (.pointer (some ⟨p, 0, none⟩)) ∧ w'.cell? ⟨p, 20, none⟩ = some (.pointer (some ⟨m, 0, none⟩))) ((first | exact ⟨a0, a1, a2⟩ | exact ⟨c0, c1, c2⟩ | exact ⟨y0, y1, y2⟩ | go_keep))
    (first
     | (go_at_call 79
        refine (lvbitmap_any P2.out hl hin B2.out.blk rfl).mono ?_
        rintro e w3 ⟨rfl, hb3⟩
        have lx3 := Lib.hid (show z < w3.heap.size ∧ z + 1 < w3.heap.size from ⟨Nat.lt_of_lt_of_le lx.out.1 hb3.size, Nat.lt_of_lt_of_le lx.out.2 hb3.size⟩)
        have c0 : w3.cell? ⟨z, 0, none⟩ = some (.pointer (some ⟨b, 0, none⟩)) := by rw [(bcell hb3).1 z 0 lx.out.1]; exact y0
        have c1 : w3.cell? ⟨z + 1, 0, none⟩ = some (.pointer (some ⟨p, 0, none⟩)) := by rw [(bcell hb3).1 (z + 1) 0 lx.out.2]; exact y1
        have c2 : w3.cell? ⟨p, 20, none⟩ = some (.pointer (some ⟨m, 0, none⟩)) := (P2.out.below hb3).at20
        have P3 := Lib.hid (P2.out.below hb3)
        have B3 := Lib.hid (B2.out.below hb3)
        have F3 := Lib.hid ((Fr.old (S := [m, g, b]) (show Below w.heap.size w W1.drew from HZ.out.symm ▸ HA2.out)).trans (Fr.old hb3))
        clear hb3)
     | (go_at_call 88
        refine (load_any P3.out.mem _).mono ?_
        rintro e w4 ⟨rfl, hm, hf⟩
        have n0 : z ∉ [m, g] := by simp only [List.mem_cons, List.not_mem_nil, or_false]; have := L0.out; omega
        have n1 : z + 1 ∉ [m, g] := by simp only [List.mem_cons, List.not_mem_nil, or_false]; have := L0.out; omega
        have a0 : w4.cell? ⟨z, 0, none⟩ = some (.pointer (some ⟨b, 0, none⟩)) := by rw [fr_cell hf lx3.out.1 n0]; exact c0
        have a1 : w4.cell? ⟨z + 1, 0, none⟩ = some (.pointer (some ⟨p, 0, none⟩)) := by rw [fr_cell hf lx3.out.2 n1]; exact c1
        have P4 := Lib.hid (P3.out.acc hm hf)
        have a2 := P4.out.at20
        have B4 := Lib.hid (B3.out.acc P3.out hf)
        have F4 := Lib.hid (F3.out.trans (hf.mono (by simp)))
        have lx4 := Lib.hid (show z < w4.heap.size ∧ z + 1 < w4.heap.size from ⟨Nat.lt_of_lt_of_le lx3.out.1 hf.size, Nat.lt_of_lt_of_le lx3.out.2 hf.size⟩)
        clear hm hf n0 n1))
  clear P1 B1 P2 B2 P3 B3 F3 y0 y1 y2 c0 c1 c2 d0 d1 a2
  obtain ⟨N, hN⟩ : ∃ N : Nat, s.old (rBitmap c f.fa) = (N : Int) := ⟨(s.old (rBitmap c f.fa)).toNat, by have := HU.out.1; omega⟩
  have hN64 : N < 18446744073709551616 := by have := HU.out.2; omega
  have hne : ((N : Int) == 0) = false := by have := HC.out; rw [hN] at this; simpa using this
  have HN := Lib.hid hN
  rw [hN]
  clear hN
  go_upto_region 6 with fail
  have z0 : w4.drew.cell? ⟨z, 0, none⟩ = some (.pointer (some ⟨b, 0, none⟩)) := a0
  have z1 : w4.drew.cell? ⟨b, 5, none⟩ = some (.int .i64 f.fi) := by rw [show w4.drew.cell? ⟨b, 5, none⟩ = w4.cell? ⟨b, 5, none⟩ from rfl, B4.out.blk.at_]; rfl
  have z2 : w4.drew.frozen? ⟨b, 5, none⟩ = false := B4.out.blk.free 5
  have KH := Lib.hid (fun W => high_any N hN64 W)
  have P5 := Lib.hid (P4.out.drewN 1)
  have B5 := Lib.hid B4.out.drew
  have F5 := Lib.hid F4.out.drew
  have lx5 : z < w4.drew.heap.size := lx4.out.1
  have hzb : z ≠ b := by have := L0.out; omega
  clear P4 B4 F4 hne
  have hT : hiS (s.old (rBitmap c f.fa)).toNat = hiS N := by rw [HN.out, Int.toNat_natCast]
  have HT := Lib.hid hT
  clear hT
  go_region_held3 (fun w' => w'.cell? ⟨z, 0, none⟩ = some (.pointer (some ⟨b, 0, none⟩))) ((first | exact v0 | exact u0 | exact z0 | go_keep))
    ((go_at_call 89
      refine (KH.out _).mono ?_
      rintro e w6 ⟨rfl, rfl⟩
      have u0 : w4.drew.cell? ⟨z, 0, none⟩ = some (.pointer (some ⟨b, 0, none⟩)) := z0
      have v0 : (w4.drew.setCell ⟨b, 5, none⟩ (.int .i64 (hiS N))).cell? ⟨z, 0, none⟩ = some (.pointer (some ⟨b, 0, none⟩)) := by rw [World.cell?_setCell_other _ _ _ _ (by simp [hzb])]; exact z0))
  have hfs : Fr [b] w4.drew (w4.drew.setCell ⟨b, 5, none⟩ (.int .i64 (hiS N))) := (Fr.refl _ _).setCell (by simp) _
  have P6 := Lib.hid (P5.out.lown B5.out hfs)
  have B6 := Lib.hid (B5.out.put5 (.int .i64 (hiS N)))
  have F6 := Lib.hid (F5.out.trans (hfs.mono (by simp)))
  have e0 := v0
  clear P5 B5 F5 hfs z0 z1 z2 KH v0 u0
  have hW : w4.drew.setCell ⟨b, 5, none⟩ (.int .i64 (hiS N)) = (w4.setCell ⟨b, 5, none⟩ (.int .i64 (hiS N))).drew := rfl
  generalize w4.drew.setCell ⟨b, 5, none⟩ (.int .i64 (hiS N)) = w7 at *
  rw [← hW]
  clear hW
  go_wp2_with fail
  (with_reducible refine (lnext_any B6.out 2).mono ?_)
  rintro e w8 ⟨rfl, hb8, hf8⟩
  have P8 := Lib.hid (P6.out.lown B6.out hf8)
  have B8 := Lib.hid hb8
  have F8 := Lib.hid (F6.out.trans (hf8.mono (by simp)))
  clear hb8 hf8 P6 B6 F6
  go_wp2
  go_ret
  refine ⟨rfl, P8.out, ?_, F8.out⟩
  rw [HT.out]
  exact B8.out.ofln rfl
end
end Go.Proofs.Ytmoblcfjplolgaa
