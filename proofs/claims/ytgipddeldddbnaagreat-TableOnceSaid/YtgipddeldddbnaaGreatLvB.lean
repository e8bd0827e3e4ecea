/-
  Package levels: what each line begins. (Written by wip/gen_lv.py.)
-/
import Derived.Test.YtgipddeldddbnaaGreatMgAM
import Derived.Test.YtgipddeldddbnaaGreatMgAV
import Derived.Test.YtgipddeldddbnaaGreatMgAW
namespace Go.Proofs.YtgipddeldddbnaaGreat
open Go Go.RowKit Go.Shelf
set_option linter.unusedSimpArgs false

section
variable {w w' : World} {p m k g cap : Nat} {s s' : St} {t d : Int} {hd : List Value} {rv ev : Value} {c : Cfg} {b : Nat} {ty : TypeId} {cs : Array Value} {x y : Nat}
set_option maxRecDepth 100000 in
set_option maxHeartbeats 4000000 in
theorem lvpush_fn (hp : PE w p m k g cap s t d hd rv ev) (hl : LayHd hd c) (hin : CfgIn c) (hb : Blk w b ty cs) (hx : w.cell? ⟨x, 0, none⟩ = some (.pointer (some ⟨b, 0, none⟩))) (hy : w.cell? ⟨y, 0, none⟩ = some (.pointer (some ⟨p, 0, none⟩))) (lx : x < w.heap.size) (ly : y < w.heap.size) {wk : Int} {lv : Int} {v : Int} (h4 : cs[4]? = some (.int .i64 wk)) (h5 : cs[5]? = some (.int .i64 lv)) (h6 : cs[6]? = some (.int .i64 v)) :
    Calls Tryz.prog 99 #[.pointer (some ⟨x, 0, none⟩), .pointer (some ⟨y, 0, none⟩)] w (Pushed (rQueue c wk lv).1 (rQueue c wk lv).2.1 (rQueue c wk lv).2.2.1 (rQueue c wk lv).2.2.2 v w) := by
  have P0 := Lib.hid (hp.drewN 1)
  have B0 := Lib.hid (show Blk w.drew b ty cs from hb)
  have HB0 := Lib.hid (below_drew (Below.refl w.heap.size w))
  have HQ := Lib.hid (show Below w.heap.size w w.drew from below_drew (Below.refl w.heap.size w))
  have d0 : w.drew.cell? ⟨x, 0, none⟩ = some (.pointer (some ⟨b, 0, none⟩)) := by rw [show w.drew.cell? ⟨x, 0, none⟩ = w.cell? ⟨x, 0, none⟩ from rfl]; exact hx
  have d1 : w.drew.cell? ⟨y, 0, none⟩ = some (.pointer (some ⟨p, 0, none⟩)) := by rw [show w.drew.cell? ⟨y, 0, none⟩ = w.cell? ⟨y, 0, none⟩ from rfl]; exact hy
  have d2 : w.drew.cell? ⟨b, 4, none⟩ = some (.int .i64 wk) := by rw [B0.out.at_]; exact h4
  have d3 : w.drew.cell? ⟨b, 5, none⟩ = some (.int .i64 lv) := by rw [B0.out.at_]; exact h5
  have d4 : w.drew.cell? ⟨b, 6, none⟩ = some (.int .i64 v) := by rw [B0.out.at_]; exact h6
  clear hp hb
  have HX := Lib.hid (And.intro hx (And.intro hy (And.intro lx ly)))
  clear hx hy lx ly
  go_enter Tryz.func99, Tryz.ntmps99
  go_upto_region 1 with fail
  go_region_held3 (fun w' => w'.cell? ⟨x, 0, none⟩ = some (.pointer (some ⟨b, 0, none⟩)) ∧ w'.cell? ⟨y, 0, none⟩ = some (.pointer (some ⟨p, 0, none⟩)) ∧ w'.cell? ⟨b, 4, none⟩ = some (.int .i64 wk) ∧ w'.cell? ⟨b, 5, none⟩ = some (.int .i64 lv) ∧ w'.cell? ⟨b, 6, none⟩ = some (.int .i64 v)) ((first | exact ⟨v0, v1, v2, v3, v4⟩ | exact ⟨u0, u1, u2, u3, u4⟩ | exact ⟨d0, d1, d2, d3, d4⟩ | go_keep))
    (first
      | (go_at_call 101
         refine (lvqueue_any P0.out hl hin B0.out h4 h5).mono ?_
         rintro e w1 ⟨rfl, hb1⟩
         have HB1 := Lib.hid (HB0.out.trans (hb1.mono (show w.heap.size ≤ _ from HB0.out.size)))
         have P1 := Lib.hid (P0.out.below hb1)
         have B1 := Lib.hid (B0.out.below hb1)
         have u0 : w1.cell? ⟨x, 0, none⟩ = some (.pointer (some ⟨b, 0, none⟩)) := by rw [(bcell HB1.out).1 x 0 HX.out.2.2.1]; exact HX.out.1
         have u1 : w1.cell? ⟨y, 0, none⟩ = some (.pointer (some ⟨p, 0, none⟩)) := by rw [(bcell HB1.out).1 y 0 HX.out.2.2.2]; exact HX.out.2.1
         have u2 : w1.cell? ⟨b, 4, none⟩ = some (.int .i64 wk) := by rw [B1.out.at_]; exact h4
         have u3 : w1.cell? ⟨b, 5, none⟩ = some (.int .i64 lv) := by rw [B1.out.at_]; exact h5
         have u4 : w1.cell? ⟨b, 6, none⟩ = some (.int .i64 v) := by rw [B1.out.at_]; exact h6
         skip)
      | (go_at_call 100
         refine (oPush_any (rQueue c wk lv).1 (rQueue c wk lv).2.1 (rQueue c wk lv).2.2.1 (rQueue c wk lv).2.2.2 v _).mono ?_
         rintro e w2 ⟨qn, rfl, ho, hqn, hb2⟩
         have HB2 := Lib.hid (HB1.out.trans (hb2.mono (show w.heap.size ≤ _ from HB1.out.size)))
         have P2 := Lib.hid (P1.out.below hb2)
         have B2 := Lib.hid (B1.out.below hb2)
         have v0 : w2.cell? ⟨x, 0, none⟩ = some (.pointer (some ⟨b, 0, none⟩)) := by rw [(bcell HB2.out).1 x 0 HX.out.2.2.1]; exact HX.out.1
         have v1 : w2.cell? ⟨y, 0, none⟩ = some (.pointer (some ⟨p, 0, none⟩)) := by rw [(bcell HB2.out).1 y 0 HX.out.2.2.2]; exact HX.out.2.1
         have v2 : w2.cell? ⟨b, 4, none⟩ = some (.int .i64 wk) := by rw [B2.out.at_]; exact h4
         have v3 : w2.cell? ⟨b, 5, none⟩ = some (.int .i64 lv) := by rw [B2.out.at_]; exact h5
         have v4 : w2.cell? ⟨b, 6, none⟩ = some (.int .i64 v) := by rw [B2.out.at_]; exact h6
         have HO := Lib.hid (And.intro ho hqn)
         skip))
  go_wp2
  go_ret
  exact ⟨qn, rfl, HO.out.1, Nat.le_trans HB1.out.size HO.out.2, HB2.out⟩
set_option maxRecDepth 100000 in
set_option maxHeartbeats 4000000 in
theorem lvset_fn (hp : PE w p m k g cap s t d hd rv ev) (hl : LayHd hd c) (hin : CfgIn c) (hb : Blk w b ty cs) (hx : w.cell? ⟨x, 0, none⟩ = some (.pointer (some ⟨b, 0, none⟩))) (hy : w.cell? ⟨y, 0, none⟩ = some (.pointer (some ⟨p, 0, none⟩))) (lx : x < w.heap.size) (ly : y < w.heap.size) {wk : Int} {lv : Int} (h4 : cs[4]? = some (.int .i64 wk)) (h5 : cs[5]? = some (.int .i64 lv)) :
    Calls Tryz.prog 102 #[.pointer (some ⟨x, 0, none⟩), .pointer (some ⟨y, 0, none⟩)] w (Seted (rBitmap c wk) lv w) := by
  have P0 := Lib.hid (hp.drewN 1)
  have B0 := Lib.hid (show Blk w.drew b ty cs from hb)
  have HB0 := Lib.hid (below_drew (Below.refl w.heap.size w))
  have HQ := Lib.hid (show Below w.heap.size w w.drew from below_drew (Below.refl w.heap.size w))
  have d0 : w.drew.cell? ⟨x, 0, none⟩ = some (.pointer (some ⟨b, 0, none⟩)) := by rw [show w.drew.cell? ⟨x, 0, none⟩ = w.cell? ⟨x, 0, none⟩ from rfl]; exact hx
  have d1 : w.drew.cell? ⟨y, 0, none⟩ = some (.pointer (some ⟨p, 0, none⟩)) := by rw [show w.drew.cell? ⟨y, 0, none⟩ = w.cell? ⟨y, 0, none⟩ from rfl]; exact hy
  have d2 : w.drew.cell? ⟨b, 4, none⟩ = some (.int .i64 wk) := by rw [B0.out.at_]; exact h4
  have d3 : w.drew.cell? ⟨b, 5, none⟩ = some (.int .i64 lv) := by rw [B0.out.at_]; exact h5
  clear hp hb
  have HX := Lib.hid (And.intro hx (And.intro hy (And.intro lx ly)))
  clear hx hy lx ly
  go_enter Tryz.func102, Tryz.ntmps102
  go_upto_region 1 with fail
  go_region_held3 (fun w' => w'.cell? ⟨x, 0, none⟩ = some (.pointer (some ⟨b, 0, none⟩)) ∧ w'.cell? ⟨y, 0, none⟩ = some (.pointer (some ⟨p, 0, none⟩)) ∧ w'.cell? ⟨b, 4, none⟩ = some (.int .i64 wk) ∧ w'.cell? ⟨b, 5, none⟩ = some (.int .i64 lv)) ((first | exact ⟨v0, v1, v2, v3⟩ | exact ⟨u0, u1, u2, u3⟩ | exact ⟨d0, d1, d2, d3⟩ | go_keep))
    (first
      | (go_at_call 104
         refine (lvbitmap_any P0.out hl hin B0.out h4).mono ?_
         rintro e w1 ⟨rfl, hb1⟩
         have HB1 := Lib.hid (HB0.out.trans (hb1.mono (show w.heap.size ≤ _ from HB0.out.size)))
         have P1 := Lib.hid (P0.out.below hb1)
         have B1 := Lib.hid (B0.out.below hb1)
         have u0 : w1.cell? ⟨x, 0, none⟩ = some (.pointer (some ⟨b, 0, none⟩)) := by rw [(bcell HB1.out).1 x 0 HX.out.2.2.1]; exact HX.out.1
         have u1 : w1.cell? ⟨y, 0, none⟩ = some (.pointer (some ⟨p, 0, none⟩)) := by rw [(bcell HB1.out).1 y 0 HX.out.2.2.2]; exact HX.out.2.1
         have u2 : w1.cell? ⟨b, 4, none⟩ = some (.int .i64 wk) := by rw [B1.out.at_]; exact h4
         have u3 : w1.cell? ⟨b, 5, none⟩ = some (.int .i64 lv) := by rw [B1.out.at_]; exact h5
         skip)
      | (go_at_call 103
         refine (bSet_any (rBitmap c wk) lv _).mono ?_
         rintro e w2 ⟨qn, rfl, ho, hqn, hb2⟩
         have HB2 := Lib.hid (HB1.out.trans (hb2.mono (show w.heap.size ≤ _ from HB1.out.size)))
         have P2 := Lib.hid (P1.out.below hb2)
         have B2 := Lib.hid (B1.out.below hb2)
         have v0 : w2.cell? ⟨x, 0, none⟩ = some (.pointer (some ⟨b, 0, none⟩)) := by rw [(bcell HB2.out).1 x 0 HX.out.2.2.1]; exact HX.out.1
         have v1 : w2.cell? ⟨y, 0, none⟩ = some (.pointer (some ⟨p, 0, none⟩)) := by rw [(bcell HB2.out).1 y 0 HX.out.2.2.2]; exact HX.out.2.1
         have v2 : w2.cell? ⟨b, 4, none⟩ = some (.int .i64 wk) := by rw [B2.out.at_]; exact h4
         have v3 : w2.cell? ⟨b, 5, none⟩ = some (.int .i64 lv) := by rw [B2.out.at_]; exact h5
         have HO := Lib.hid (And.intro ho hqn)
         skip))
  go_wp2
  go_ret
  exact ⟨qn, rfl, HO.out.1, Nat.le_trans HB1.out.size HO.out.2, HB2.out⟩
end
end Go.Proofs.YtgipddeldddbnaaGreat
