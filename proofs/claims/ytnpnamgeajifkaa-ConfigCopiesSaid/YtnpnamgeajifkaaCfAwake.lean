/-
  awake of the statements on configurations.
-/
import Derived.Test.YtnpnamgeajifkaaCfDec
import Derived.Test.YtnpnamgeajifkaaCfChkB
import Derived.Test.YtnpnamgeajifkaaCfWeigh
namespace Go.Proofs.Ytnpnamgeajifkaa
open Go Go.RowKit

/-- The configuration of the empty byte string. -/
def c0 : Cfg := ⟨1, 1, 1, 1, 1, 1, 1, 0, 1, [[]], []⟩
theorem dec_empty : decC (strm []) = c0 := by decide
theorem chk_c0 : chk c0 = 0 := by rw [← dec_empty]; exact chk_dec _
def prog3 : List T3 := [(0, 3, 0), (1, 0, 0), (2, 0, 0)]
theorem tris_lit (w : World) (l : List T3) (hm : l.length ≤ maxLen) : Tris (w.alloc (.cells (cellsT l).toArray 47)) 0 (some ⟨w.heap.size, 0, none⟩) l.length l := by
  have hB := Blk.made w 47 (cellsT l).toArray
  refine ⟨rfl, hm, fun i hi => ⟨_, rfl, Nat.zero_le _, hB.lt, ?_, ?_, ?_⟩⟩
  · have e : (⟨w.heap.size, 0, none⟩ : Addr).add (i * 3) = ⟨w.heap.size, i * 3, none⟩ := by unfold Addr.add; split <;> simp_all
    rw [e, hB.at_, List.getElem?_toArray]
    exact (cellsT_at l i hi).1
  · have e : (⟨w.heap.size, 0, none⟩ : Addr).add (i * 3 + 1) = ⟨w.heap.size, i * 3 + 1, none⟩ := by unfold Addr.add; split <;> simp_all
    rw [e, hB.at_, List.getElem?_toArray]
    exact (cellsT_at l i hi).2.1
  · have e : (⟨w.heap.size, 0, none⟩ : Addr).add (i * 3 + 2) = ⟨w.heap.size, i * 3 + 2, none⟩ := by unfold Addr.add; split <;> simp_all
    rw [e, hB.at_, List.getElem?_toArray]
    exact (cellsT_at l i hi).2.2

set_option maxRecDepth 20000 in
set_option maxHeartbeats 4000000 in
theorem awake_any (w : World) : Calls Try.prog 12 #[] w (Gives (.bool true) w) := by
  have b0 : (c0.wo == 1) = true := by decide
  have b1 : (c0.ta == 1) = true := by decide
  have b2 : (c0.pa == 1) = true := by decide
  have b3 : (c0.wo + 1 == 2) = true := by decide
  have HC := Lib.hid chk_c0
  go_enter Try.func12, Try.ntmps12
  go_wp2_with fail
  (with_reducible refine (decode_any (inB_nil w w.heap.size none) 0 (Nat.le_refl _)).mono ?_)
  rintro e w1 ⟨v, rfl, hcfg, hb⟩
  rw [dec_empty] at hcfg
  obtain ⟨pa, pn, pc, sa, sn, sc, rfl, hl⟩ := hcfg.isCfg
  obtain rfl : 1 = pn := hl.pr.1
  have H1 := Lib.hid (hl.alloc (.cells (cc c0 pa 1 pc sa sn sc) 25))
  have X1 := Lib.hid (Blk.made w1 25 (cc c0 pa 1 pc sa sn sc))
  have B1 := Lib.hid (hb.alloc hb.size (.cells (cc c0 pa 1 pc sa sn sc) 25))
  clear hl hb
  go_wp2_with fail
  have HT := Lib.hid (show Tris ((w1.alloc (.cells (cc c0 pa 1 pc sa sn sc) 25)).alloc (.cells #[.int .i64 0, .int .i64 3, .int .i64 0, .int .i64 1, .int .i64 0, .int .i64 0, .int .i64 2, .int .i64 0, .int .i64 0] 47)) 0 (some ⟨(w1.alloc (.cells (cc c0 pa 1 pc sa sn sc) 25)).heap.size, 0, none⟩) 3 prog3 from tris_lit (w1.alloc (.cells (cc c0 pa 1 pc sa sn sc) 25)) prog3 (by unfold maxLen; simp [prog3]))
  rw [show (w1.alloc (.cells (cc c0 pa 1 pc sa sn sc) 25)).heap.size = w1.heap.size + 1 by simp] at HT
  have H2 := Lib.hid (H1.out.alloc (.cells #[.int .i64 0, .int .i64 3, .int .i64 0, .int .i64 1, .int .i64 0, .int .i64 0, .int .i64 2, .int .i64 0, .int .i64 0] 47))
  have X2 := Lib.hid (X1.out.alloc (.cells #[.int .i64 0, .int .i64 3, .int .i64 0, .int .i64 1, .int .i64 0, .int .i64 0, .int .i64 2, .int .i64 0, .int .i64 0] 47))
  have B2 := Lib.hid (B1.out.alloc B1.out.size (.cells #[.int .i64 0, .int .i64 3, .int .i64 0, .int .i64 1, .int .i64 0, .int .i64 0, .int .i64 2, .int .i64 0, .int .i64 0] 47))
  clear H1 X1 B1
  (with_reducible refine (weight_any HT.out _ (by simp [prog3]) (by simp)).mono ?_)
  rintro e w2 ⟨rfl, hb⟩
  rw [show wgt prog3 = 5 by decide]
  have H3 := Lib.hid (H2.out.below hb)
  have X3 := Lib.hid (X2.out.below hb)
  have B3 := Lib.hid (B2.out.trans (hb.mono B2.out.size))
  clear H2 X2 B2 HT hb
  obtain ⟨e0, e1, e2, e3, e4, e5, e6, e7, e8, e9, e10⟩ := eleven X3.out
  go_wp2_with fail
  (with_reducible refine (check_any H3.out _ _).mono ?_)
  rintro e w3 ⟨rfl, hb⟩
  rw [HC.out]
  have X4 := Lib.hid (X3.out.below hb)
  have B4 := Lib.hid (B3.out.trans (hb.mono B3.out.size))
  clear X3 B3 H3 hb e0 e1 e2 e3 e4 e5 e6 e7 e8 e9 e10
  obtain ⟨e0, e1, e2, e3, e4, e5, e6, e7, e8, e9, e10⟩ := eleven X4.out
  go_wp2_with fail
  (with_reducible refine (machines_any c0 _ 1 _ _ sn _ (by decide) (by decide) _).mono ?_)
  rintro e w4 ⟨rfl, hb⟩
  have B5 := Lib.hid (B4.out.trans (hb.mono B4.out.size))
  clear hb
  go_wp2
  go_ret
  exact ⟨rfl, B5.out⟩
end Go.Proofs.Ytnpnamgeajifkaa
