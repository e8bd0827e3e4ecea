/-
  Package machine: Copy of an environment without records. (Written by wip/gen_mci.py.)
-/
import Derived.Test.YtllkehdokgfafaaMcH
import Derived.Test.YtllkehdokgfafaaCfCloneB
import Derived.Deep.RegionHeld3
import Derived.Lib.SliceRun
namespace Go.Proofs.Ytllkehdokgfafaa
open Go Go.RowKit Go.Shelf
set_option linter.unusedSimpArgs false
set_option linter.unusedVariables false

/-- The cells of an environment's configuration and layout. -/
abbrev hdC (c : Cfg) (pa : Option Addr) (pn pc : Nat) (sa : Option Addr) (sn sc : Nat) (l0 l1 l2 l3 l4 l5 l6 l7 l8 : Int) : List Value := [.int .i64 c.wo, .int .i64 c.le, .int .i64 c.cl, .int .i64 c.ta, .int .i64 c.de, .int .i64 c.he, .int .i64 c.ba, .int .i64 c.ag, .int .i64 c.pa, .slice pa pn pc, .slice sa sn sc, .int .i64 l0, .int .i64 l1, .int .i64 l2, .int .i64 l3, .int .i64 l4, .int .i64 l5, .int .i64 l6, .int .i64 l7, .int .i64 l8]

theorem InE.cells {w : World} {x : Addr} {es : List Ev} (h : InE w (some x) es) : ∀ j u, (cellsV es)[j]? = some u → w.cell? (x.add j) = some u := by
  intro j u hu
  have hj : j < es.length * 5 := by
    rw [← cellsV_length]
    exact (List.getElem?_eq_some_iff.1 hu).1
  have hi : j / 5 < es.length := by omega
  obtain ⟨y, e, _, hc⟩ := h.2 (j / 5) _ (List.getElem?_eq_getElem hi)
  cases e
  have h1 := cellsV_at es (j / 5) (j % 5) _ (List.getElem?_eq_getElem hi) (by omega)
  have h2 := hc (j % 5) (by omega)
  rw [show j / 5 * 5 + j % 5 = j by omega] at h1 h2
  rw [h2, ← h1, hu]

/-- What slices.Clone gives of events. -/
def ClonedV (l : List Ev) (w : World) (e : Ending) (w' : World) : Prop := ∃ v, e = .returned v ∧ OwnE w' w.heap.size v l ∧ Below w.heap.size w w'

set_option maxHeartbeats 1000000 in
theorem clonev_any {w : World} {a : Option Addr} {l : List Ev} (h : InE w a l) (c : Nat) (hn : l.length ≤ 1000000) :
    Calls Try.prog 49 #[.slice a l.length c] w (ClonedV l w) := by
  cases a with
  | none =>
    have hl : l = [] := by
      cases l with
      | nil => rfl
      | cons e r =>
        obtain ⟨x, ex, _⟩ := h.2 0 e rfl
        cases ex
    subst hl
    clear h
    have hq : (binOp .eql 39 (.slice none 0 c) (.slice none 0 0)).run Try.prog w = .ok (.bool true) w := Lib.run_eql_slice_nil w _ _ _ _ _ _ _ Try.underlying39
    rw [List.length_nil]
    go_enter Try.func49, Try.ntmps49
    go_wp2
    go_ret
    exact ⟨_, rfl, OwnE.nil _ _, Below.refl _ _⟩
  | some x =>
    have HT := Lib.hid (h.below (below_one w (.cells #[] 67))).cells
    have hO : OwnE (w.alloc (.cells #[] 67)) w.heap.size (.slice (some ⟨w.heap.size, 0, none⟩) 0 0) [] := World.ownsRow_made w #[] 0 (Nat.le_refl _) (by unfold maxLen; omega) rfl
    have HO := Lib.hid hO
    have HB := Lib.hid (below_one w (.cells #[] 67))
    have HN := Lib.hid hn
    obtain ⟨n, hln⟩ : ∃ n, l.length = n := ⟨_, rfl⟩
    rw [hln]
    have HLN := Lib.hid hln
    clear h hO hn hln
    have hq : (binOp .eql 39 (.slice (some x) n c) (.slice none 0 0)).run Try.prog w = .ok (.bool false) w := Lib.run_eql_slice_nil w _ _ _ _ _ _ _ Try.underlying39
    obtain ⟨i0, hi, hz0, hz1, hz2⟩ := info_parts info_event
    go_enter Try.func49, Try.ntmps49
    go_wp2_with
      (at_builtin
       refine wpList_append_own_at _ rfl _ _ 39 rfl _ 67 i0 _ 5 40 Try.underlying39 hi hz0 hz1 hz2 rfl (by omega) _ 0 [] rfl HO.out x n c (cellsV l) rfl (by rw [cellsV_length, HLN.out]) HT.out (cellsV_one l) (by have := HN.out; have := HLN.out; unfold maxLen; omega) (by have := HN.out; have := HLN.out; omega) HB.out.size ?_
       intro v2 w2 hown hg _ _
       have HW := Lib.hid (show OwnE w2 w.heap.size v2 l by unfold OwnE; rw [HLN.out]; simpa using hown)
       have HF := Lib.hid (fr_below (fr_grown (S := []) (Fr.old HB.out) (fun k hk => (HO.out.lt k hk).1) hg))
       clear hown hg)
    go_ret
    exact ⟨_, rfl, HW.out, HF.out⟩

/-- Clone of no records. -/
theorem clonen_any (w : World) (c : Nat) :
    Calls Try.prog 48 #[.slice none 0 c] w fun e w' => e = .returned (.slice none 0 0) ∧ w = w' := by
  have hq : (binOp .eql 38 (.slice none 0 c) (.slice none 0 0)).run Try.prog w = .ok (.bool true) w := Lib.run_eql_slice_nil w _ _ _ _ _ _ _ Try.underlying38
  go_enter Try.func48, Try.ntmps48
  go_wp2
  go_ret
  exact ⟨rfl, rfl⟩

/-- The 24 cells of an environment without records. -/
def Cells24 (c : Cfg) (pa : Option Addr) (pn pc : Nat) (sa : Option Addr) (sn sc : Nat) (l0 l1 l2 l3 l4 l5 l6 l7 l8 : Int) (p m k : Nat) (ea : Option Addr) (en ec : Nat) (w' : World) : Prop := w'.cell? ⟨p, 0, none⟩ = some (.int .i64 c.wo) ∧ w'.cell? ⟨p, 1, none⟩ = some (.int .i64 c.le) ∧ w'.cell? ⟨p, 2, none⟩ = some (.int .i64 c.cl) ∧ w'.cell? ⟨p, 3, none⟩ = some (.int .i64 c.ta) ∧ w'.cell? ⟨p, 4, none⟩ = some (.int .i64 c.de) ∧ w'.cell? ⟨p, 5, none⟩ = some (.int .i64 c.he) ∧ w'.cell? ⟨p, 6, none⟩ = some (.int .i64 c.ba) ∧ w'.cell? ⟨p, 7, none⟩ = some (.int .i64 c.ag) ∧ w'.cell? ⟨p, 8, none⟩ = some (.int .i64 c.pa) ∧ w'.cell? ⟨p, 9, none⟩ = some (.slice pa pn pc) ∧ w'.cell? ⟨p, 10, none⟩ = some (.slice sa sn sc) ∧ w'.cell? ⟨p, 11, none⟩ = some (.int .i64 l0) ∧ w'.cell? ⟨p, 12, none⟩ = some (.int .i64 l1) ∧ w'.cell? ⟨p, 13, none⟩ = some (.int .i64 l2) ∧ w'.cell? ⟨p, 14, none⟩ = some (.int .i64 l3) ∧ w'.cell? ⟨p, 15, none⟩ = some (.int .i64 l4) ∧ w'.cell? ⟨p, 16, none⟩ = some (.int .i64 l5) ∧ w'.cell? ⟨p, 17, none⟩ = some (.int .i64 l6) ∧ w'.cell? ⟨p, 18, none⟩ = some (.int .i64 l7) ∧ w'.cell? ⟨p, 19, none⟩ = some (.int .i64 l8) ∧ w'.cell? ⟨p, 20, none⟩ = some (.pointer (some ⟨m, 0, none⟩)) ∧ w'.cell? ⟨p, 21, none⟩ = some (.pointer (some ⟨k, 0, none⟩)) ∧ w'.cell? ⟨p, 22, none⟩ = some (.slice none 0 0) ∧ w'.cell? ⟨p, 23, none⟩ = some (.slice ea en ec)
theorem PE.cells24 {w : World} {p m k g cap : Nat} {s : St} {t d : Int} {c : Cfg} {pa : Option Addr} {pn pc : Nat} {sa : Option Addr} {sn sc : Nat} {l0 l1 l2 l3 l4 l5 l6 l7 l8 : Int} {ea : Option Addr} {en ec : Nat} (h : PE w p m k g cap s t d (hdC c pa pn pc sa sn sc l0 l1 l2 l3 l4 l5 l6 l7 l8) (.slice none 0 0) (.slice ea en ec)) : Cells24 c pa pn pc sa sn sc l0 l1 l2 l3 l4 l5 l6 l7 l8 p m k ea en ec w :=
  ⟨h.blk.at_ 0, h.blk.at_ 1, h.blk.at_ 2, h.blk.at_ 3, h.blk.at_ 4, h.blk.at_ 5, h.blk.at_ 6, h.blk.at_ 7, h.blk.at_ 8, h.blk.at_ 9, h.blk.at_ 10, h.blk.at_ 11, h.blk.at_ 12, h.blk.at_ 13, h.blk.at_ 14, h.blk.at_ 15, h.blk.at_ 16, h.blk.at_ 17, h.blk.at_ 18, h.blk.at_ 19, h.blk.at_ 20, h.blk.at_ 21, h.blk.at_ 22, h.blk.at_ 23⟩

/-- What the first region of Copy leaves: the copy under way. -/
def CopyA (w : World) (es : List Ev) (v : Value) (wx : World) : Prop :=
  ∃ (q : Nat) (hd : List Value) (ev : Value), v = .pointer (some ⟨q, 0, none⟩) ∧ hd.length = 20 ∧ Blk wx q 41 (hd ++ [.pointer none, .pointer none, .slice none 0 0, ev]).toArray ∧ OwnE wx w.heap.size ev es ∧ Below w.heap.size w wx ∧ w.heap.size ≤ q

set_option maxRecDepth 100000 in
set_option maxHeartbeats 8000000 in
theorem pcopy_any {w : World} {B : Nat} {p m k g cap : Nat} {s : St} {t d : Int} {c : Cfg} {pa : Option Addr} {pn pc : Nat} {sa : Option Addr} {sn sc : Nat} {l0 l1 l2 l3 l4 l5 l6 l7 l8 : Int} {ea : Option Addr} {ec : Nat} {es : List Ev}
    (h : PE w p m k g cap s t d (hdC c pa pn pc sa sn sc l0 l1 l2 l3 l4 l5 l6 l7 l8) (.slice none 0 0) (.slice ea es.length ec)) (hes : InE w ea es) (hn : es.length ≤ 900000) (hl : Lists w B c pa pn sa sn) (hpn : pn ≤ 1000) (hsn : sn ≤ 1000) (hpl : ∀ x ∈ c.pr, x.length ≤ 1000) :
    Calls Try.prog 25 #[.pointer (some ⟨p, 0, none⟩)] w fun e w' => ∃ p' m' k' g' cap' hd' ev', e = .returned (.pointer (some ⟨p', 0, none⟩)) ∧ PE w' p' m' k' g' cap' s t d hd' (.slice none 0 0) ev' ∧ OwnE w' w.heap.size ev' es ∧ Below w.heap.size w w' := by
  have HP := Lib.hid h
  have HCL := Lib.hid (show ∀ W : World, Below w.heap.size w W → Calls Try.prog 29 #[cv c pa pn pc sa sn sc] W (fun e W' => ∃ qa qn qc ta tn tc, e = .returned (cv c qa qn qc ta tn tc) ∧ Below W.heap.size W W' ∧ Below w.heap.size w W') by
    intro W hW
    refine (cfclone_any (hl.below hW) pc sc hpn hsn hpl).mono ?_
    rintro e W' ⟨v, rfl, ⟨qa, qn, qc, ta, tn, tc, rfl, _⟩, hb⟩
    exact ⟨qa, qn, qc, ta, tn, tc, rfl, hb, hW.trans (hb.mono hW.size)⟩)
  have HEV := Lib.hid (show ∀ W : World, Below w.heap.size w W → Calls Try.prog 49 #[.slice ea es.length ec] W (fun e W' => ∃ va vc, e = .returned (.slice va es.length vc) ∧ OwnE W' w.heap.size (.slice va es.length vc) es ∧ Below W.heap.size W W' ∧ Below w.heap.size w W') by
    intro W hW
    refine (clonev_any (hes.below hW) ec (by omega)).mono ?_
    rintro e W' ⟨v, rfl, ho, hb⟩
    obtain ⟨va, vc, rfl⟩ := ho.form
    refine ⟨va, vc, rfl, ?_, hb, hW.trans (hb.mono hW.size)⟩
    refine ⟨ho.1, ?_⟩
    rcases ho.2 with h2 | ⟨g, cap, cur, e2, h2, rest⟩
    · exact .inl h2
    · exact .inr ⟨g, cap, cur, e2, Nat.le_trans hW.size h2, rest⟩)
  have HC24 := Lib.hid (show ∀ W : World, Below w.heap.size w W → Cells24 c pa pn pc sa sn sc l0 l1 l2 l3 l4 l5 l6 l7 l8 p m k ea es.length ec W from fun W hW => (h.below hW).cells24)
  have hnil := fun (W : World) => clonen_any W 0
  obtain ⟨N, hN⟩ : ∃ N, es.length = N := ⟨_, rfl⟩
  rw [hN] at HEV HC24
  have HN := Lib.hid hN
  clear h hes hn hl hpn hsn hpl hN
  have hd0 : Below w.heap.size w w.drew := below_drew (Below.refl _ _)
  go_enter Try.func25, Try.ntmps25
  go_upto_region 1 with fail
  go_cut [3] from 5 to 25 (fun s3 wx => CopyA w es s3 wx)
  case first =>
    have h0 := HC24.out w.drew hd0
    unfold Cells24 at h0
    go_region_held3 (fun w' => w'.cell? ⟨p, 0, none⟩ = some (.int .i64 c.wo) ∧ w'.cell? ⟨p, 1, none⟩ = some (.int .i64 c.le) ∧ w'.cell? ⟨p, 2, none⟩ = some (.int .i64 c.cl) ∧ w'.cell? ⟨p, 3, none⟩ = some (.int .i64 c.ta) ∧ w'.cell? ⟨p, 4, none⟩ = some (.int .i64 c.de) ∧ w'.cell? ⟨p, 5, none⟩ = some (.int .i64 c.he) ∧ w'.cell? ⟨p, 6, none⟩ = some (.int .i64 c.ba) ∧ w'.cell? ⟨p, 7, none⟩ = some (.int .i64 c.ag) ∧ w'.cell? ⟨p, 8, none⟩ = some (.int .i64 c.pa) ∧ w'.cell? ⟨p, 9, none⟩ = some (.slice pa pn pc) ∧ w'.cell? ⟨p, 10, none⟩ = some (.slice sa sn sc) ∧ w'.cell? ⟨p, 11, none⟩ = some (.int .i64 l0) ∧ w'.cell? ⟨p, 12, none⟩ = some (.int .i64 l1) ∧ w'.cell? ⟨p, 13, none⟩ = some (.int .i64 l2) ∧ w'.cell? ⟨p, 14, none⟩ = some (.int .i64 l3) ∧ w'.cell? ⟨p, 15, none⟩ = some (.int .i64 l4) ∧ w'.cell? ⟨p, 16, none⟩ = some (.int .i64 l5) ∧ w'.cell? ⟨p, 17, none⟩ = some (.int .i64 l6) ∧ w'.cell? ⟨p, 18, none⟩ = some (.int .i64 l7) ∧ w'.cell? ⟨p, 19, none⟩ = some (.int .i64 l8) ∧ w'.cell? ⟨p, 20, none⟩ = some (.pointer (some ⟨m, 0, none⟩)) ∧ w'.cell? ⟨p, 21, none⟩ = some (.pointer (some ⟨k, 0, none⟩)) ∧ w'.cell? ⟨p, 22, none⟩ = some (.slice none 0 0) ∧ w'.cell? ⟨p, 23, none⟩ = some (.slice ea N ec)) ((first | exact h0 | exact h1 | exact h2 | go_keep))
      (first
       | (go_at_call 29
          refine (HCL.out _ ?hb).mono ?_
          case hb => first | exact hc2 | exact hc1 | exact hd0
          rintro e W1 ⟨qa, qn, qc, ta, tn, tc, rfl, hbW1, hc1⟩
          have h1 := HC24.out W1 hc1
          unfold Cells24 at h1)
       | (go_at_call 49
          refine (HEV.out _ ?hb).mono ?_
          case hb => first | exact hc2 | exact hc1 | exact hd0
          rintro e W2 ⟨va, vc, rfl, hoe, hbW2, hc2⟩
          have h2 := HC24.out W2 hc2
          unfold Cells24 at h2)
       | (go_at_call 48; refine (hnil _).mono ?_; rintro e W' ⟨rfl, rfl⟩))
    all_goals
      clear h0 h1 h2
      go_wp2_with fail
      go_meet
      case rel =>
        first
        | exact ⟨_, hdC c qa qn qc ta tn tc l0 l1 l2 l3 l4 l5 l6 l7 l8, .slice va N vc, rfl, rfl, Blk.made _ _ _, (hoe.below hbW1).below (below_one _ _), hc1.trans ((below_one _ _).mono hc1.size), hc1.size⟩
        | exact ⟨_, hdC c qa qn qc ta tn tc l0 l1 l2 l3 l4 l5 l6 l7 l8, .slice va N vc, rfl, rfl, Blk.made _ _ _, hoe.below (below_one _ _), hc2.trans ((below_one _ _).mono hc2.size), hc2.size⟩
  case rest =>
    obtain ⟨q, hd, ev, rfl, hlen, hbk, hown, hbl, hq⟩ := hcut
    clear HCL HEV HC24 hnil hd0
    have HPW := Lib.hid (HP.out.below hbl)
    have b22 : wc.cell? ⟨q, 22, none⟩ = some (.slice none 0 0) := by
      rw [hbk.at_, List.getElem?_toArray, List.getElem?_append_right (by rw [hlen]; decide), hlen]; rfl
    have HBK := Lib.hid hbk
    have HOW := Lib.hid hown
    have HBL := Lib.hid hbl
    have HLE := Lib.hid hlen
    clear hbk hown hbl hlen
    have h20 := HPW.out.at20
    have h21 := HPW.out.at21
    go_wp2_with fail
    refine wp_loop_rounds 1 ?_
    rw [rounds_succ]
    go_wp2_with fail
    (with_reducible refine (copy_any HPW.out.mem).mono ?_)
    rintro e w2 ⟨m', g', cap', rfl, hm', hg', hmem, hb2⟩
    have hbq := HBK.out.below hb2
    have hp2 := HPW.out.below hb2
    have hpq : p ≠ q := by have := HP.out.blk.lt; omega
    have hqp : q ≠ p := fun e => hpq e.symm
    have c20 : w2.cell? ⟨q, 20, none⟩ = some (.pointer none) := by
      rw [hbq.at_, List.getElem?_toArray, List.getElem?_append_right (by rw [HLE.out]; decide), HLE.out]; rfl
    have f20 := hbq.free 20
    have j21 := hp2.at21
    have hs20 : Fr [q] w2 (w2.setCell ⟨q, 20, none⟩ (.pointer (some ⟨m', 0, none⟩))) := (Fr.refl _ _).setCell (by simp) _
    have hb3 := hbq.put 20 (.pointer (some ⟨m', 0, none⟩))
    have hqlt := HBK.out.lt
    have hkq : k ≠ q := by have := Blk.lt HP.out.clk; omega
    have hk3 := hp2.clk.fr hs20 (by simpa using hkq)
    have hmem3 := hmem.fr hs20 (by simp; omega) (by simp; omega)
    have hown3 : OwnE (w2.setCell ⟨q, 20, none⟩ (.pointer (some ⟨m', 0, none⟩))) w.heap.size ev es := by
      have ho := HOW.out.below hb2
      refine ⟨ho.1, ?_⟩
      rcases ho.2 with h2 | ⟨g9, c9, cur, e9, h2, hg9, rest⟩
      · exact .inl h2
      · refine .inr ⟨g9, c9, cur, e9, h2, (hs20.block g9 (Array.getElem?_eq_some_iff.1 hg9).1 (by
          simp only [List.mem_cons, List.not_mem_nil, or_false]
          intro e
          subst e
          unfold Blk at hbq
          rw [hg9] at hbq
          simp only [Option.some.injEq, Obj.cells.injEq] at hbq
          exact absurd hbq.2.1 (by decide))).trans hg9, rest⟩
    have hb3' : Below w.heap.size w (w2.setCell ⟨q, 20, none⟩ (.pointer (some ⟨m', 0, none⟩))) := (HBL.out.trans (hb2.mono HBL.out.size)).trans (hs20.below (by have := HBL.out.size; have := hb2.size; omega) (by intro x hx; simp at hx; omega))
    have k21 : (w2.setCell ⟨q, 20, none⟩ (.pointer (some ⟨m', 0, none⟩))).cell? ⟨p, 21, none⟩ = some (.pointer (some ⟨k, 0, none⟩)) := by
      rw [World.cell?_of_block (hs20.block p (by have := HP.out.blk.lt; have := HBL.out.size; have := hb2.size; omega) (by simpa using hpq))]
      exact j21
    have HMEM := Lib.hid (And.intro hmem3 (And.intro hown3 (And.intro hb3' hb3)))
    have HK3 := Lib.hid hk3
    have HQL := Lib.hid (And.intro hpq (And.intro hm' (And.intro hg' hqlt)))
    clear hbq hp2 hmem3 hown3 hb3' hb3 hs20 hk3 hmem hb2 h20 h21 b22 hkq hqlt HPW
    go_wp2_with fail
    (with_reducible refine (ccopy_any HK3.out).mono ?_)
    rintro e w4 ⟨rfl, hk4, hb4⟩
    obtain ⟨hmem3, hown3, hb3', hb3⟩ := HMEM.out
    have hb4q := hb3.below hb4
    have c21 : w4.cell? ⟨q, 21, none⟩ = some (.pointer none) := by
      rw [hb4q.at_, Array.getElem?_setIfInBounds_ne (by decide), List.getElem?_toArray, List.getElem?_append_right (by rw [HLE.out]; decide), HLE.out]; rfl
    have f21 := hb4q.free 21
    generalize hW3 : w2.setCell ⟨q, 20, none⟩ (.pointer (some ⟨m', 0, none⟩)) = w3 at *
    have hk4' : Clk w4 w3.heap.size t d := hk4
    have hs21 : Fr [q] w4 (w4.setCell ⟨q, 21, none⟩ (.pointer (some ⟨w3.heap.size, 0, none⟩))) := (Fr.refl _ _).setCell (by simp) _
    have hw32 : w3.heap.size = w2.heap.size := by rw [← hW3]; simp [World.setCell]
    obtain ⟨hpq, hm', hg', hqlt⟩ := HQL.out
    have hw3 := HMEM.out.2.2.1.size
    have hq3 : q < w3.heap.size := Blk.lt hb3
    have hfin : PE (w4.setCell ⟨q, 21, none⟩ (.pointer (some ⟨w3.heap.size, 0, none⟩))) q m' w3.heap.size g' cap' s t d hd (.slice none 0 0) ev := by
      refine ⟨?_, HLE.out, (hmem3.fr (Fr.old (S := []) hb4) (by simp) (by simp)).fr hs21 (by simp; omega) (by simp; omega), hk4'.fr hs21 (by simp; omega)⟩
      have hput := hb4q.put 21 (.pointer (some ⟨w3.heap.size, 0, none⟩))
      rw [List.setIfInBounds_toArray, List.setIfInBounds_toArray, List.set_append_right _ _ (by rw [HLE.out]; decide), HLE.out, List.set_append_right _ _ (by rw [HLE.out]; decide), HLE.out] at hput
      exact hput
    have hown5 : OwnE (w4.setCell ⟨q, 21, none⟩ (.pointer (some ⟨w3.heap.size, 0, none⟩))) w.heap.size ev es := by
      have ho := hown3.below hb4
      refine ⟨ho.1, ?_⟩
      rcases ho.2 with h2 | ⟨g9, c9, cur, e9, h2, hg9, rest⟩
      · exact .inl h2
      · refine .inr ⟨g9, c9, cur, e9, h2, (hs21.block g9 (Array.getElem?_eq_some_iff.1 hg9).1 (by
          simp only [List.mem_cons, List.not_mem_nil, or_false]
          intro e
          subst e
          unfold Blk at hb4q
          rw [hg9] at hb4q
          simp only [Option.some.injEq, Obj.cells.injEq] at hb4q
          exact absurd hb4q.2.1 (by decide))).trans hg9, rest⟩
    have hb5 : Below w.heap.size w (w4.setCell ⟨q, 21, none⟩ (.pointer (some ⟨w3.heap.size, 0, none⟩))) := (hb3'.trans (hb4.mono hw3)).trans (hs21.below (by have := hb4.size; omega) (by intro x hx; simp at hx; omega))
    have HFIN := Lib.hid (And.intro hfin (And.intro hown5 hb5))
    clear hfin hown5 hb5 hs21 hk4 hk4' hb4 hb4q hmem3 hown3 hb3' hb3 HMEM HK3
    go_wp2_with fail
    go_ret
    have hfn := HFIN.out
    rw [hw32] at hfn
    exact ⟨_, _, _, _, _, _, _, rfl, hfn.1, hfn.2.1, hfn.2.2⟩
end Go.Proofs.Ytllkehdokgfafaa
