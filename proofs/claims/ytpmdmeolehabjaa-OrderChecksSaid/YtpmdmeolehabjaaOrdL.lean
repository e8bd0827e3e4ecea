/-
  The law OrderChecks: two, awake.
-/
import Derived.Test.YtpmdmeolehabjaaOrdK
import Derived.Test.YtpmdmeolehabjaaKCfg
namespace Go.Proofs.Ytpmdmeolehabjaa
open Go Go.RowKit
set_option linter.unusedSimpArgs false
set_option linter.unusedVariables false

def cE : Cfg := ⟨1, 1, 1, 1, 1, 1, 1, 0, 1, [[]], []⟩
theorem dec_emptyE : decC (strm []) = cE := by decide
def cT : Cfg := ⟨1, 1, 1, 4, 1, 2, 1, 0, 1, [[]], [(0, 0, 9), (0, 0, 4)]⟩
theorem chk_cT : chk cT = 0 := by simp [chk, numsB, progsR, subsR, chkPs, chkSs, subOk, inB, cT]; omega
theorem subs_lit (w : World) (l : List T3) (hm : l.length ≤ maxLen) : Tris (w.alloc (.cells (cellsT l).toArray 47)) w.heap.size (some ⟨w.heap.size, 0, none⟩) l.length l := by
  have hB := Blk.made w 47 (cellsT l).toArray
  refine ⟨rfl, hm, fun i hi => ⟨_, rfl, Nat.le_refl _, hB.lt, ?_, ?_, ?_⟩⟩
  · have e : (⟨w.heap.size, 0, none⟩ : Addr).add (i * 3) = ⟨w.heap.size, i * 3, none⟩ := by unfold Addr.add; split <;> simp_all
    rw [e, hB.at_, List.getElem?_toArray]
    exact (cellsT_at l i hi).1
  · have e : (⟨w.heap.size, 0, none⟩ : Addr).add (i * 3 + 1) = ⟨w.heap.size, i * 3 + 1, none⟩ := by unfold Addr.add; split <;> simp_all
    rw [e, hB.at_, List.getElem?_toArray]
    exact (cellsT_at l i hi).2.1
  · have e : (⟨w.heap.size, 0, none⟩ : Addr).add (i * 3 + 2) = ⟨w.heap.size, i * 3 + 2, none⟩ := by unfold Addr.add; split <;> simp_all
    rw [e, hB.at_, List.getElem?_toArray]
    exact (cellsT_at l i hi).2.2
theorem tris_fr {w w' : World} {B : Nat} {a : Option Addr} {n : Nat} {l : List T3} {S : List Nat} (h : Tris w B a n l) (hb : Fr S w w') (hS : ∀ s, s ∈ S → s < B) : Tris w' B a n l :=
  ⟨h.1, h.2.1, fun i hi => by
    obtain ⟨x, e, hB, hx, h0, h1, h2⟩ := h.2.2 i hi
    have hk := hb.block x.block hx (fun hm => by have := hS _ hm; omega)
    have hc : ∀ j, w'.cell? (x.add j) = w.cell? (x.add j) := fun j => World.cell?_of_block (w := w) (by rw [block_add]; exact hk)
    exact ⟨x, e, hB, Nat.lt_of_lt_of_le hx hb.size, (hc _).trans h0, (hc _).trans h1, (hc _).trans h2⟩⟩
theorem prgs_fr {w w' : World} {B : Nat} {a : Option Addr} {n : Nat} {ps : List (List T3)} {S : List Nat} (h : Prgs w B a n ps) (hb : Fr S w w') (hS : ∀ s, s ∈ S → s < B) : Prgs w' B a n ps :=
  ⟨h.1, h.2.1, fun i hi => by
    obtain ⟨x, b, m, c, e, hB, hx, h0, ht⟩ := h.2.2 i hi
    have hk := hb.block x.block hx (fun hm => by have := hS _ hm; omega)
    exact ⟨x, b, m, c, e, hB, Nat.lt_of_lt_of_le hx hb.size, (World.cell?_of_block (w := w) (by rw [block_add]; exact hk)).trans h0, tris_fr ht hb hS⟩⟩
/-- What two returns. -/
def TwoR (w : World) (e : Ending) (w' : World) : Prop := ∃ pa pn pc sa sn sc, e = .returned (cv cT pa pn pc sa sn sc) ∧ Lists w' 0 cT pa pn sa sn ∧ Below w.heap.size w w'
set_option maxHeartbeats 4000000 in
theorem two_any (w : World) : Calls Try.prog 10 #[] w (TwoR w) := by
  have hz := below_one w (.cells zero11 25)
  have HZ := Lib.hid hz
  have HC := Lib.hid (config_any (w := w.alloc (.cells zero11 25)) (inB_nil _ _ none) 0)
  have ZB := Lib.hid (Blk.made w 25 zero11)
  have hs1 : (w.alloc (.cells zero11 25)).heap.size = w.heap.size + 1 := by simp
  clear hz
  go_enter Try.func10, Try.ntmps10
  go_wp2_with (with_reducible refine HC.out.mono ?_)
  rintro e w1 ⟨u, rfl, hcfg, hb1⟩
  rw [dec_emptyE] at hcfg
  obtain ⟨pa, pn, pc, sa, sn, sc, rfl, hl⟩ := hcfg.isCfg
  have HL := Lib.hid hl
  have HB1 := Lib.hid hb1
  clear hl hb1 hcfg HC
  go_upto_region 4 with fail
  have hz1 : (w1.alloc (.cells #[.int .i64 cE.wo, .int .i64 cE.le, .int .i64 cE.cl, .int .i64 4, .int .i64 cE.de, .int .i64 2, .int .i64 cE.ba, .int .i64 cE.ag, .int .i64 cE.pa, .slice pa pn pc, .slice (some ⟨w1.heap.size + 1, 0, none⟩) 2 2] 25)).heap.size = w1.heap.size + 1 := by simp
  have hB2 := below_one w1 (.cells #[.int .i64 cE.wo, .int .i64 cE.le, .int .i64 cE.cl, .int .i64 4, .int .i64 cE.de, .int .i64 2, .int .i64 cE.ba, .int .i64 cE.ag, .int .i64 cE.pa, .slice pa pn pc, .slice (some ⟨w1.heap.size + 1, 0, none⟩) 2 2] 25)
  have hB3 := below_one (w1.alloc (.cells #[.int .i64 cE.wo, .int .i64 cE.le, .int .i64 cE.cl, .int .i64 4, .int .i64 cE.de, .int .i64 2, .int .i64 cE.ba, .int .i64 cE.ag, .int .i64 cE.pa, .slice pa pn pc, .slice (some ⟨w1.heap.size + 1, 0, none⟩) 2 2] 25)) (.cells #[.int .i64 0, .int .i64 0, .int .i64 9, .int .i64 0, .int .i64 0, .int .i64 4] 47)
  have hb5 := hB2.trans (hB3.mono hB2.size)
  have hT := subs_lit (w1.alloc (.cells #[.int .i64 cE.wo, .int .i64 cE.le, .int .i64 cE.cl, .int .i64 4, .int .i64 cE.de, .int .i64 2, .int .i64 cE.ba, .int .i64 cE.ag, .int .i64 cE.pa, .slice pa pn pc, .slice (some ⟨w1.heap.size + 1, 0, none⟩) 2 2] 25)) [(0, 0, 9), (0, 0, 4)] (by unfold maxLen; decide)
  rw [show cellsT [(0, 0, 9), (0, 0, 4)] = [.int .i64 0, .int .i64 0, .int .i64 9, .int .i64 0, .int .i64 0, .int .i64 4] from rfl, hz1] at hT
  have hG := (Blk.made w1 25 #[.int .i64 cE.wo, .int .i64 cE.le, .int .i64 cE.cl, .int .i64 4, .int .i64 cE.de, .int .i64 2, .int .i64 cE.ba, .int .i64 cE.ag, .int .i64 cE.pa, .slice pa pn pc, .slice (some ⟨w1.heap.size + 1, 0, none⟩) 2 2]).alloc (.cells #[.int .i64 0, .int .i64 0, .int .i64 9, .int .i64 0, .int .i64 0, .int .i64 4] 47)
  have hP := (HL.out.pr).below hb5
  have hD := (ZB.out.below HB1.out).below hb5
  have hbw := HZ.out.trans (((HB1.out.trans (hb5.mono HB1.out.size))).mono HZ.out.size)
  have hsz := HB1.out.size
  rw [hs1] at hP hsz
  clear hB2 hB3 hb5
  generalize (w1.alloc (.cells #[.int .i64 cE.wo, .int .i64 cE.le, .int .i64 cE.cl, .int .i64 4, .int .i64 cE.de, .int .i64 2, .int .i64 cE.ba, .int .i64 cE.ag, .int .i64 cE.pa, .slice pa pn pc, .slice (some ⟨w1.heap.size + 1, 0, none⟩) 2 2] 25)).alloc (.cells #[.int .i64 0, .int .i64 0, .int .i64 9, .int .i64 0, .int .i64 0, .int .i64 4] 47) = W at *
  have HP := Lib.hid hP
  have HT := Lib.hid hT
  have HBW := Lib.hid hbw
  have HD := Lib.hid hD
  have hG' : Blk W w1.heap.size 25 (cc cT pa pn pc (some ⟨w1.heap.size + 1, 0, none⟩) 2 2) := hG
  obtain ⟨e0, e1, e2, e3, e4, e5, e6, e7, e8, e9, e10⟩ := eleven hG'
  have d0 := hD.at_ 0
  have g0 := hD.free 0
  have d1 := hD.at_ 1
  have g1 := hD.free 1
  have d2 := hD.at_ 2
  have g2 := hD.free 2
  have d3 := hD.at_ 3
  have g3 := hD.free 3
  have d4 := hD.at_ 4
  have g4 := hD.free 4
  have d5 := hD.at_ 5
  have g5 := hD.free 5
  have d6 := hD.at_ 6
  have g6 := hD.free 6
  have d7 := hD.at_ 7
  have g7 := hD.free 7
  have d8 := hD.at_ 8
  have g8 := hD.free 8
  have d9 := hD.at_ 9
  have g9 := hD.free 9
  have d10 := hD.at_ 10
  have g10 := hD.free 10
  clear hP hT hbw hD hG hG'
  go_wp2
  have hF := fr11 W w.heap.size (.int .i64 cT.wo) (.int .i64 cT.le) (.int .i64 cT.cl) (.int .i64 cT.ta) (.int .i64 cT.de) (.int .i64 cT.he) (.int .i64 cT.ba) (.int .i64 cT.ag) (.int .i64 cT.pa) (.slice pa pn pc) (.slice (some ⟨w1.heap.size + 1, 0, none⟩) 2 2)
  have hR := HD.out.put11 (.int .i64 cT.wo) (.int .i64 cT.le) (.int .i64 cT.cl) (.int .i64 cT.ta) (.int .i64 cT.de) (.int .i64 cT.he) (.int .i64 cT.ba) (.int .i64 cT.ag) (.int .i64 cT.pa) (.slice pa pn pc) (.slice (some ⟨w1.heap.size + 1, 0, none⟩) 2 2)
  refine bodyPost_ret (results_cell_row (P := Try.prog) Try.results10 _ _ w.heap.size 25 _ (0, 0) _ rfl hR Try.underlying25 rfl (by kernel_rfl)) rfl ?_
  have hbl := fr_below ((Fr.old HBW.out : Fr [] w W).drop hF (fun x hx => by simp at hx; omega))
  exact ⟨pa, pn, pc, _, _, _, rfl, ⟨(prgs_fr HP.out hF (fun s hs => by simp at hs; omega)).mono (Nat.zero_le _), (tris_fr HT.out hF (fun s hs => by simp at hs; omega)).mono (Nat.zero_le _)⟩, hbl⟩

theorem inE_blk {w : World} {g : Nat} {l : List Ev} (h : Blk w g 39 (cellsV l).toArray) (hm : l.length ≤ maxLen) : InE w (some ⟨g, 0, none⟩) l :=
  ⟨hm, fun i e hi => ⟨_, rfl, h.lt, fun j hj => by
    have e1 : (⟨g, 0, none⟩ : Addr).add (i * 5 + j) = ⟨g, i * 5 + j, none⟩ := by unfold Addr.add; split <;> simp_all
    rw [e1, h.at_, List.getElem?_toArray]
    exact cellsV_at l i j e hi hj⟩⟩
def eL : List Ev := [⟨1, 1, 0, 0, 0⟩, ⟨1, 1, 1, 1, 0⟩, ⟨13, 0, 1, 0, 0⟩]
def eM : List Ev := [⟨1, 1, 0, 0, 0⟩, ⟨1, 1, 1, 1, 0⟩, ⟨13, 0, 0, 0, 0⟩]
theorem folL : Fol cT eL 3 ⟨[⟨9, 0, 0⟩], 2⟩ := ⟨by decide, by rfl, fun e he => by simp [eL] at he⟩
theorem folM : Fol cT eM 2 ⟨[⟨9, 0, 0⟩, ⟨4, 1, 1⟩], 2⟩ := ⟨by decide, by rfl, fun e he => by
  simp only [eM, List.getElem?_cons_succ, List.getElem?_cons_zero, Option.some.injEq] at he
  subst he
  rfl⟩
theorem chkL {n err : Int} (h : ChkO cT eL n err) : n = 3 ∧ err = 0 := h.one (.inr ⟨chk_cT, 3, _, folL, rfl, rfl⟩)
theorem chkM {n err : Int} (h : ChkO cT eM n err) : n = 2 ∧ err = 6 := h.one (.inr ⟨chk_cT, 2, _, folM, rfl, rfl⟩)
theorem lefL {l : List Int} (h : LefO cT eL l) : l = [0] := h.one (.inr ⟨chk_cT, 3, _, folL, rfl⟩)
theorem ints_zero {w : World} {g : Nat} (h : Blk w g 3 #[.int .i64 0]) : InInts w (some ⟨g, 0, none⟩) 1 [0] := ⟨rfl, by unfold maxLen; omega, fun i hi => by
  obtain rfl : i = 0 := by omega
  exact ⟨_, rfl, h.lt, h.at_ 0⟩⟩
end Go.Proofs.Ytpmdmeolehabjaa
