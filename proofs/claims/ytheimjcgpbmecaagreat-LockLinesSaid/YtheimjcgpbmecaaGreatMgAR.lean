/-
  The reference's CopyRecords: records of the call's own, equal to those that came in.
  Slices of events that came in.
  Words for memory: rows of uint64 cells, and what a memory and the reference's memory hold.
  Package memory: has, access.
-/
import Derived.Test.YtheimjcgpbmecaaGreatMgAQ
import Derived.LoopTactic
import Derived.Deep.OwnRows
import Derived.Deep.Cut
import Derived.Deep.CutRange
import Derived.Test.YtheimjcgpbmecaaGreatMgAF
import Derived.Test.YtheimjcgpbmecaaGreatMgAA
import Derived.WalkSpells
import Derived.WalkLawsBesides
import Derived.Lib.Hide
import Derived.Shelf.Abstract
import Derived.Outline
namespace Go.Proofs.YtheimjcgpbmecaaGreat
open Go Go.RowKit
set_option linter.unusedSimpArgs false
set_option linter.unusedVariables false

/-- What CopyRecords gives. -/
def CopiedR (rs : List Rec) (w : World) (e : Ending) (w' : World) : Prop := ∃ v, e = .returned v ∧ OwnR w' w.heap.size v rs ∧ Below w.heap.size w w'
/-- What its loop keeps. -/
def CpRR (rs : List Rec) (w : World) (i v : Value) (wr : World) : Prop := ∃ j, j ≤ rs.length ∧ i = .int .i64 j ∧ OwnR wr w.heap.size v (rs.take j) ∧ Below w.heap.size w wr

set_option maxRecDepth 100000 in
set_option maxHeartbeats 4000000 in
theorem rcopyrecs_any {w : World} {B : Nat} {rv : Value} {rs : List Rec} (h : OwnR w B rv rs) (hn : rs.length ≤ 1000) (hk : ∀ r, r ∈ rs → r.ks.length ≤ 100000) :
    Calls Tryz.prog 41 #[rv] w (CopiedR rs w) := by
  obtain ⟨x0, c0, hv⟩ := h.form
  subst hv
  obtain ⟨n, hnn⟩ : ∃ n, rs.length = n := ⟨_, rfl⟩
  have HR := Lib.hid h
  have HN := Lib.hid (And.intro hnn (And.intro hn hk))
  have HST := Lib.hid (show CpRR rs w (.int .i64 0) (.slice none 0 0) w from ⟨0, Nat.zero_le _, rfl, ⟨[], by simp, World.ownsRow_nil _ _ _ _, fun i hi => by simp at hi⟩, Below.refl _ _⟩)
  rw [hnn]
  clear h hn hk hnn
  go_enter Tryz.func41, Tryz.ntmps41
  go_wp2_with fail
  go_loopw [4, 3] (fun i v wr => CpRR rs w i v wr) (fun i _ _ => n - (intOf i).toNat)
  case atStart => exact HST.out
  case round =>
    clear HST
    obtain ⟨j, hj, rfl, hO, hb⟩ := hrel
    rw [HN.out.1] at hj
    have O := Lib.hid hO
    have BB := Lib.hid hb
    clear hO hb
    by_cases hlt : j < n
    case neg =>
      obtain rfl : j = n := by omega
      go_wp2
      go_ret
      have h := O.out
      rw [List.take_of_length_le (by rw [HN.out.1]; exact Nat.le_refl _)] at h
      exact ⟨_, rfl, h, BB.out⟩
    have hr := HR.out.same (fun k cs t hk _ => BB.out.block k (Array.getElem?_eq_some_iff.1 hk).1)
    obtain ⟨x, c, k, he, ⟨hx0, hxs⟩, _, hki, hc, _, _⟩ := hr.at_ (show j < rs.length by rw [HN.out.1]; exact hlt)
    simp only [Value.slice.injEq, Option.some.injEq] at he
    obtain ⟨rfl, _, rfl⟩ := he
    obtain ⟨r, hrj⟩ : ∃ r, rs.getD j zrec = r := ⟨_, rfl⟩
    rw [hrj] at hki hc
    have hrm : r ∈ rs := by
      rw [← hrj, List.getD_eq_getElem?_getD, List.getElem?_eq_getElem (by rw [HN.out.1]; exact hlt)]
      exact List.getElem_mem _
    obtain ⟨ka, kn, kc, rfl, hcase⟩ : ∃ ka kn kc, k = .slice ka kn kc ∧ ((ka = none ∧ kn = 0 ∧ kc = 0 ∧ r.ks = []) ∨ ∃ kg, ka = some ⟨kg, 0, none⟩ ∧ kn = r.ks.length) := by
      rcases hki.2 with ⟨e, hl0⟩ | ⟨kg, cap, cur, e, _⟩
      · exact ⟨_, _, _, e, .inl ⟨rfl, rfl, rfl, List.eq_nil_of_length_eq_zero hl0⟩⟩
      · exact ⟨_, _, _, e, .inr ⟨kg, rfl, rfl⟩⟩
    have c0 : wr.cell? (x.add (j * 7)) = some (.int .i64 r.pg) := by rw [add_head _ ⟨hx0, hxs⟩]; exact hc 0 (by omega)
    have c1 : wr.cell? ⟨(x.add (j * 7)).block, (x.add (j * 7)).off + 1, none⟩ = some (.int .i64 r.pt) := by rw [add_cell _ ⟨hx0, hxs⟩]; exact hc 1 (by omega)
    have c2 : wr.cell? ⟨(x.add (j * 7)).block, (x.add (j * 7)).off + 2, none⟩ = some (.int .i64 r.pc) := by rw [add_cell _ ⟨hx0, hxs⟩]; exact hc 2 (by omega)
    have c3 : wr.cell? ⟨(x.add (j * 7)).block, (x.add (j * 7)).off + 3, none⟩ = some (.int .i64 r.lf) := by rw [add_cell _ ⟨hx0, hxs⟩]; exact hc 3 (by omega)
    have c4 : wr.cell? ⟨(x.add (j * 7)).block, (x.add (j * 7)).off + 4, none⟩ = some (.int .i64 r.wt) := by rw [add_cell _ ⟨hx0, hxs⟩]; exact hc 4 (by omega)
    have c5 : wr.cell? ⟨(x.add (j * 7)).block, (x.add (j * 7)).off + 5, none⟩ = some (.slice ka kn kc) := by rw [add_cell _ ⟨hx0, hxs⟩]; exact hc 5 (by omega)
    have c6 : wr.cell? ⟨(x.add (j * 7)).block, (x.add (j * 7)).off + 6, none⟩ = some (.bool r.st) := by rw [add_cell _ ⟨hx0, hxs⟩]; exact hc 6 (by omega)
    have KI := Lib.hid (hki.alloc (.cells (rcl r (.slice ka kn kc)).toArray 62))
    have HK := Lib.hid (And.intro hrj (HN.out.2.2 r hrm))
    have hj0 : (0 : Int) ≤ (j : Int) := by omega
    have hj1 : (j : Int) < (n : Int) := by omega
    have hj2 : j ≤ 1000 := by have := HN.out; omega
    have HJ := Lib.hid (And.intro hlt hj2)
    have ej : wrap64 ((j : Int) + 1) = ((j + 1 : Nat) : Int) := by unfold wrap64; omega
    have HCASE := Lib.hid hcase
    have HKI := Lib.hid hki
    clear hki hrj hrm hc hr hx0 hxs hcase
    go_upto_region 6 with fail
    clear c0 c1 c2 c3 c4 c5 c6
    have hW6 := below_one wr (.cells (rcl r (.slice ka kn kc)).toArray 62)
    have X6 := Lib.hid (Blk.made wr 62 (rcl r (.slice ka kn kc)).toArray)
    have B6 := Lib.hid (BB.out.alloc BB.out.size (.cells (rcl r (.slice ka kn kc)).toArray 62))
    have O6 := Lib.hid (O.out.same (fun q cs t hk _ => hW6.block q (Array.getElem?_eq_some_iff.1 hk).1))
    have K6 := Lib.hid (HKI.out.below hW6)
    have HG := Lib.hid (show w.heap.size ≤ wr.heap.size ∧ ∀ q, u3.ownBlock = some q → q ≠ wr.heap.size from ⟨BB.out.size, fun q hq e => by
      obtain ⟨ks, _, h2, _⟩ := O.out
      have := (World.ownsRow.lt h2 q hq).2
      omega⟩)
    clear O BB KI HKI hW6
    change Code.wp _ _ _ _ (wr.alloc (.cells (rcl r (.slice ka kn kc)).toArray 62))
    generalize wr.alloc (.cells (rcl r (.slice ka kn kc)).toArray 62) = W6 at *
    generalize wr.heap.size = g6 at *
    go_cut [] from 6 to 24 (fun wx => ∃ v', Blk wx g6 62 (rcl r v').toArray ∧ OwnI wx w.heap.size v' r.ks ∧ OwnR wx w.heap.size u3 (rs.take j) ∧ Below w.heap.size w wx)
    case first =>
      have hb7 := below_one W6 (.cells #[] 3)
      have X7 := Lib.hid (X6.out.below hb7)
      have B7 := Lib.hid (B6.out.alloc B6.out.size (.cells #[] 3))
      have O7 := Lib.hid (O6.out.same (fun q cs t hk _ => hb7.block q (Array.getElem?_eq_some_iff.1 hk).1))
      have K7 := Lib.hid (K6.out.below hb7)
      have N7 := Lib.hid (show OwnI (W6.alloc (.cells #[] 3)) w.heap.size (.slice (some ⟨W6.heap.size, 0, none⟩) 0 0) [] from OwnI.lit W6 w.heap.size [] B6.out.size (by unfold maxLen; simp))
      have HS7 := Lib.hid (show w.heap.size ≤ (W6.alloc (.cells #[] 3)).heap.size from B7.out.size)
      have x5 : (W6.alloc (.cells #[] 3)).cell? ⟨g6, 5, none⟩ = some (.slice ka kn kc) := X7.out.at_ 5
      clear X6 B6 K6 hb7
      rcases HCASE.out with ⟨rfl, rfl, rfl, hks⟩ | ⟨kg, rfl, rfl⟩
      · have f5 : (W6.alloc (.cells #[] 3)).frozen? ⟨g6, 5, none⟩ = false := X7.out.free 5
        have HKS := Lib.hid hks
        clear hks
        obtain ⟨i0, hi, hz0, hz1, hz2⟩ := info_parts info_int
        go_wp2_with (refine wpList_append_own_none rfl (.tmp 16) (.tmp 18) 60 rfl w.heap.size 3 i0 1 Tryz.underlying60 hi _ 0 [] rfl N7.out rfl ?_)
        go_meet
        case rel =>
          have hp := X7.out.put 5 (.slice (some ⟨W6.heap.size, 0, none⟩) 0 0)
          have hf : Fr [g6] (W6.alloc (.cells #[] 3)) ((W6.alloc (.cells #[] 3)).setCell ⟨g6, 5, none⟩ (.slice (some ⟨W6.heap.size, 0, none⟩) 0 0)) := (Fr.refl _ _).setCell (by simp) _
          refine ⟨_, hp, ?_, O7.out.frS hf (fun q hq hm => HG.out.2 q hq (by simpa using hm)) (fun q cs hm hk => ?_), B7.out.trans (hf.below HS7.out (fun y hy => by simp at hy; have := HG.out.1; omega))⟩
          · rw [HKS.out]
            exact row_frS N7.out hf (fun q hq hm => by
              simp at hm
              subst hm
              exact row_apart N7.out X7.out (by decide) q hq rfl)
          · simp at hm
            subst hm
            exact absurd (ty_at X7.out hk) (by decide)
      · have hl := HK.out.2
        have HNW := Lib.hid (show ∀ i u, (r.ks.map (Value.int .i64))[i]? = some u → (W6.alloc (.cells #[] 3)).cell? ((⟨kg, 0, none⟩ : Addr).add i) = some u from fun i u hu => by
          have hil : i < r.ks.length := by
            have := (List.getElem?_eq_some_iff.1 hu).1
            simpa using this
          rw [add_head _ ⟨rfl, rfl⟩, K7.out.cellAt hil, ← hu, List.getElem?_map, List.getElem?_eq_getElem hil, List.getD_eq_getElem?_getD, List.getElem?_eq_getElem hil]
          rfl)
        go_wp2_with (refine wpList_appI rfl (.tmp 16) (.tmp 18) rfl rfl N7.out rfl rfl HNW.out (by simp; omega) HS7.out ?_; intro v8 w8 hown hgr; obtain ⟨a8, c8, rfl, _⟩ := hown.form; have hx8 := X7.out.appI N7.out hgr (.inl (by decide)); have x58 : w8.cell? ⟨g6, 5, none⟩ = some (.slice (some ⟨kg, 0, none⟩) r.ks.length kc) := hx8.at_ 5; have f58 := hx8.free 5; have X8 := Lib.hid hx8; have O8 := Lib.hid hown; have G8 := Lib.hid hgr; clear hown hgr hx8)
        go_meet
        case rel =>
          have hp := X8.out.put 5 (.slice a8 ([] ++ r.ks).length c8)
          have hf : Fr [g6] w8 (w8.setCell ⟨g6, 5, none⟩ (.slice a8 ([] ++ r.ks).length c8)) := (Fr.refl _ _).setCell (by simp) _
          have hb8 := below_appI B7.out N7.out (Nat.le_refl _) G8.out
          have ho8 := O6.out.same (w' := w8) (fun q cs t hk ht => by
            have hq := (Array.getElem?_eq_some_iff.1 hk).1
            exact (G8.out.block q (Nat.lt_of_lt_of_le hq (below_one W6 (.cells #[] 3)).size) (fun e => by
              have e' : some q = some W6.heap.size := e
              have := Option.some.inj e'
              omega)).trans ((below_one W6 (.cells #[] 3)).block q hq))
          refine ⟨_, hp, ?_, ho8.frS hf (fun q hq hm => HG.out.2 q hq (by simpa using hm)) (fun q cs hm hk => ?_), hb8.trans (hf.below hb8.size (fun y hy => by simp at hy; have := HG.out.1; omega))⟩
          · exact row_frS O8.out hf (fun q hq hm => by
              simp at hm
              subst hm
              exact row_apart O8.out X8.out (by decide) q hq rfl)
          · simp at hm
            subst hm
            exact absurd (ty_at X8.out hk) (by decide)
    case rest =>
    clear X6 B6 O6 K6 HCASE
    obtain ⟨kv, hx, hki, ho, hb⟩ := hcut
    have X7 := Lib.hid hx
    have KI := Lib.hid hki
    have O7 := Lib.hid ho
    have B7 := Lib.hid hb
    obtain ⟨va, vn, vc, hkv⟩ : ∃ va vn vc, kv = .slice va vn vc := by
      obtain ⟨a8, c8, e, _⟩ := hki.form
      exact ⟨_, _, _, e⟩
    subst hkv
    have x0 : wc.cell? ⟨g6, 0, none⟩ = some (.int .i64 r.pg) := hx.at_ 0
    have x1 : wc.cell? ⟨g6, 1, none⟩ = some (.int .i64 r.pt) := hx.at_ 1
    have x2 : wc.cell? ⟨g6, 2, none⟩ = some (.int .i64 r.pc) := hx.at_ 2
    have x3 : wc.cell? ⟨g6, 3, none⟩ = some (.int .i64 r.lf) := hx.at_ 3
    have x4 : wc.cell? ⟨g6, 4, none⟩ = some (.int .i64 r.wt) := hx.at_ 4
    have x5 : wc.cell? ⟨g6, 5, none⟩ = some (.slice va vn vc) := hx.at_ 5
    have x6 : wc.cell? ⟨g6, 6, none⟩ = some (.bool r.st) := hx.at_ 6
    have hb8 := below_one wc (.cells (rcl r (.slice va vn vc)).toArray 62)
    have O8 := Lib.hid (O7.out.same (fun q cs t hk _ => hb8.block q (Array.getElem?_eq_some_iff.1 hk).1))
    have K8 := Lib.hid (KI.out.below hb8)
    have B8 := Lib.hid (B7.out.trans (hb8.mono B7.out.size))
    have N8 := Lib.hid (show ∀ i u, (rcl r (.slice va vn vc))[i]? = some u → (wc.alloc (.cells (rcl r (.slice va vn vc)).toArray 62)).cell? ((⟨wc.heap.size, 0, none⟩ : Addr).add i) = some u from fun i u hu => by
      rw [add_head _ ⟨rfl, rfl⟩, (Blk.made wc 62 (rcl r (.slice va vn vc)).toArray).at_, List.getElem?_toArray]
      exact hu)
    have HL8 := Lib.hid (show (rs.take j).length + 1 ≤ 1000000 by rw [List.length_take]; have := HN.out.2.1; omega)
    clear hx hki ho hb hb8
    go_wp2_with (refine wpList_appRk rfl (.tmp 21) (.tmp 23) rfl rfl O8.out K8.out rfl N8.out HL8.out B8.out.size ?_; intro v9 w9 hown hgr; have O9 := Lib.hid hown; have B9 := Lib.hid (show Below w.heap.size w w9 from by
      obtain ⟨ks, _, h2, _⟩ := O8.out
      exact B8.out.trans ⟨hgr.os, hgr.tape, hgr.output, hgr.size, fun q hq => hgr.block q (Nat.lt_of_lt_of_le hq B8.out.size) (fun e => by have := (World.ownsRow.lt h2 q e.symm).1; omega)⟩); clear hown hgr)
    go_roundw
    case rel =>
      refine ⟨j + 1, by have := HJ.out; have := HN.out; omega, by go_num, ?_, B9.out⟩
      have h := O9.out
      rw [show rs.take (j + 1) = rs.take j ++ [r] by
        rw [List.take_add_one, List.getElem?_eq_getElem (by have := HN.out; omega)]
        have e := HK.out.1
        rw [List.getD_eq_getElem?_getD, List.getElem?_eq_getElem (by have := HN.out; omega)] at e
        simp at e
        rw [e]
        rfl]
      exact h
    case measure => simp [intOf]; have := HJ.out; omega
end Go.Proofs.YtheimjcgpbmecaaGreat

namespace Go.Proofs.YtheimjcgpbmecaaGreat
open Go Go.RowKit
set_option linter.unusedSimpArgs false

/-- The slice at a reads as the events es. -/
def InE (w : World) (a : Option Addr) (es : List Ev) : Prop := es.length ≤ maxLen ∧ ∀ i e, es[i]? = some e → ∃ x : Addr, a = some x ∧ x.block < w.heap.size ∧ ∀ j, j < 5 → w.cell? (x.add (i * 5 + j)) = (evV e)[j]?
theorem InE.below {w w' : World} {a : Option Addr} {es : List Ev} (h : InE w a es) (hb : Below w.heap.size w w') : InE w' a es :=
  ⟨h.1, fun i e hi => by
    obtain ⟨x, ha, hx, hc⟩ := h.2 i e hi
    exact ⟨x, ha, Nat.lt_of_lt_of_le hx hb.size, fun j hj => (hb.cell (by rw [block_add]; exact hx)).trans (hc j hj)⟩⟩
theorem InE.at_ {w : World} {a : Option Addr} {es : List Ev} (h : InE w a es) {i : Nat} {e : Ev} (hi : es[i]? = some e) :
    ∃ x : Addr, a = some x ∧ w.cell? (x.add (i * 5)) = some (.int .i64 e.kd) ∧ w.cell? ⟨(x.add (i * 5)).block, (x.add (i * 5)).off + 1, none⟩ = some (.int .i64 e.wk) ∧ w.cell? ⟨(x.add (i * 5)).block, (x.add (i * 5)).off + 2, none⟩ = some (.int .i64 e.tk)
      ∧ w.cell? ⟨(x.add (i * 5)).block, (x.add (i * 5)).off + 3, none⟩ = some (.int .i64 e.ot) ∧ w.cell? ⟨(x.add (i * 5)).block, (x.add (i * 5)).off + 4, none⟩ = some (.int .i64 e.lv) := by
  obtain ⟨x, ha, _, hc⟩ := h.2 i e hi
  exact ⟨x, ha, hc 0 (by omega), cell_field (i := i * 5) (j := 0) (hc 1 (by omega)), cell_field (i := i * 5) (j := 1) (hc 2 (by omega)), cell_field (i := i * 5) (j := 2) (hc 3 (by omega)), cell_field (i := i * 5) (j := 3) (hc 4 (by omega))⟩
theorem OwnE.inE {w : World} {B : Nat} {v : Value} {es : List Ev} (h : OwnE w B v es) : ∃ a c, v = .slice a es.length c ∧ InE w a es := by
  rcases h.2 with ⟨rfl, h2⟩ | ⟨g, cap, cur, rfl, _, hg, hn, hm, _, _⟩
  · have hl : es.length = 0 := h2
    have : es = [] := List.length_eq_zero_iff.1 hl
    subst this
    exact ⟨none, 0, rfl, by unfold maxLen; omega, fun i e hi => by simp at hi⟩
  · refine ⟨_, _, rfl, by unfold maxLen at *; omega, fun i e hi => ⟨_, rfl, (Array.getElem?_eq_some_iff.1 hg).1, fun j hj => ?_⟩⟩
    have e1 := cellsV_at es i j e hi hj
    have hlt : j < (evV e).size := hj
    rw [Array.getElem?_eq_getElem hlt] at e1 ⊢
    exact World.ownsRow.cells h rfl _ _ e1
end Go.Proofs.YtheimjcgpbmecaaGreat

namespace Go.Proofs.YtheimjcgpbmecaaGreat
open Go Go.RowKit

/-- Block p is a memory (of the program) with its cells in block g, in state s. -/
structure Mem (w : World) (p g cap : Nat) (s : St) : Prop where
  blk : Blk w p 121 #[.slice (some ⟨g, 0, none⟩) s.X.length cap, .int .i64 s.c, .int .i64 s.k, .int .i64 s.i, .int .u64 s.o, .int .u64 s.v]
  row : Row w g s.X.length cap s.X
  small : s.X.length ≤ 131072

theorem Mem.ne {w : World} {p g cap : Nat} {s : St} (h : Mem w p g cap s) : p ≠ g := by
  obtain ⟨cur, hb, _⟩ := h.row.blk
  exact h.blk.apart hb (by decide)
theorem Mem.of_same {w w' : World} {p g cap : Nat} {s : St} (h : Mem w p g cap s) (e : w'.heap[p]? = w.heap[p]?) (e' : w'.heap[g]? = w.heap[g]?) : Mem w' p g cap s := ⟨h.blk.of_same e, h.row.of_same e', h.small⟩
theorem Mem.fr {S : List Nat} {w w' : World} {p g cap : Nat} {s : St} (h : Mem w p g cap s) (f : Fr S w w') (hp : p ∉ S) (hg : g ∉ S) : Mem w' p g cap s := h.of_same (f.block p h.blk.lt hp) (f.block g h.row.lt hg)
theorem Mem.alloc {w : World} {p g cap : Nat} {s : St} (h : Mem w p g cap s) (o : Obj) : Mem (w.alloc o) p g cap s := h.of_same (Below.heap_alloc w o p h.blk.lt) (Below.heap_alloc w o g h.row.lt)
theorem Mem.drewN {w : World} {p g cap : Nat} {s : St} (h : Mem w p g cap s) (n : Nat) : Mem (w.drewN n) p g cap s := h.of_same rfl rfl
/-- The walk's end, for an access: the cell, the count and the last access have been written. -/
theorem Mem.acc {w : World} {p g cap : Nat} {s : St} (h : Mem w p g cap s) (k : Int) {j : Nat} (y : Int) :
    Mem ((((((w.setCell ⟨g, j, none⟩ (.int .u64 y)).setCell ⟨p, 1, none⟩ (.int .i64 (wrap64 (s.c + 1)))).setCell ⟨p, 2, none⟩ (.int .i64 k)).setCell ⟨p, 3, none⟩ (.int .i64 j)).setCell ⟨p, 4, none⟩ (.int .u64 (s.X.getD j 0))).setCell ⟨p, 5, none⟩ (.int .u64 y)) p g cap (s.acc k j y) := by
  have hne := h.ne
  have b := (((((h.blk.of_same (Below.heap_setCell w ⟨g, j, none⟩ (.int .u64 y) p hne)).put 1 (.int .i64 (wrap64 (s.c + 1)))).put 2 (.int .i64 k)).put 3 (.int .i64 j)).put 4 (.int .u64 (s.X.getD j 0))).put 5 (.int .u64 y)
  have r := h.row.put (i := j) y
  refine ⟨?_, ?_, by simpa [St.acc] using h.small⟩
  · simpa [St.acc] using b
  · have e : (s.acc k j y).X.length = s.X.length := by simp [St.acc]
    rw [e]
    refine r.of_same ?_
    rw [Below.heap_setCell _ _ _ _ (by simpa using hne.symm), Below.heap_setCell _ _ _ _ (by simpa using hne.symm), Below.heap_setCell _ _ _ _ (by simpa using hne.symm), Below.heap_setCell _ _ _ _ (by simpa using hne.symm), Below.heap_setCell _ _ _ _ (by simpa using hne.symm)]
end Go.Proofs.YtheimjcgpbmecaaGreat

namespace Go.Proofs.YtheimjcgpbmecaaGreat
open Go Go.RowKit Go.Shelf

theorem has_yes {w : World} {p g cap : Nat} {s : St} (h : Mem w p g cap s) {j : Nat} (hj : j < s.X.length) :
    Calls Tryz.prog 56 #[.pointer (some ⟨p, 0, none⟩), .int .i64 j] w fun e w' => e = .returned (.bool true) ∧ w = w' := by
  have h0 : w.cell? ⟨p, 0, none⟩ = some (.slice (some ⟨g, 0, none⟩) s.X.length cap) := h.blk.at_ 0
  have hs := h.small
  go_enter Tryz.func56, Tryz.ntmps56
  go_wp2
  go_ret
  exact ⟨rfl, rfl⟩

theorem has_no {w : World} {p g cap : Nat} {s : St} (h : Mem w p g cap s) {i : Int} (hi : i < 0 ∨ (s.X.length : Int) ≤ i) :
    Calls Tryz.prog 56 #[.pointer (some ⟨p, 0, none⟩), .int .i64 i] w fun e w' => e = .returned (.bool false) ∧ w = w' := by
  have h0 : w.cell? ⟨p, 0, none⟩ = some (.slice (some ⟨g, 0, none⟩) s.X.length cap) := h.blk.at_ 0
  have hs := h.small
  by_cases h1 : i < 0
  · go_enter Tryz.func56, Tryz.ntmps56
    go_wp2
    go_ret
    exact ⟨rfl, rfl⟩
  · have h2 : (s.X.length : Int) ≤ i := by omega
    have h3 : decide (i < (s.X.length : Int)) = false := by simpa using h2
    go_enter Tryz.func56, Tryz.ntmps56
    go_wp2
    go_ret
    exact ⟨rfl, rfl⟩

set_option maxHeartbeats 1000000 in
theorem access_yes {w : World} {p g cap : Nat} {s : St} (h : Mem w p g cap s) {j : Nat} (hj : j < s.X.length) (k : Int) (fk : Nat) (fc : Array Value) (y : Int)
    (he : ∀ (args : Array Value) (w : World), (callFunc fk args).run Tryz.prog w = .ok (.enter fk args) w)
    (hf : Calls Tryz.prog fk (#[.int .u64 (s.X.getD j 0)] ++ fc) w fun e w' => e = .returned (.int .u64 y) ∧ w = w') :
    Calls Tryz.prog 53 #[.pointer (some ⟨p, 0, none⟩), .int .i64 k, .int .i64 j, .func (.func fk) #[] fc] w fun e w' => e = .returned (.tuple #[.int .u64 (s.X.getD j 0), .bool true]) ∧
      Mem w' p g cap (s.acc k j y) ∧ Fr [p, g] w w' := by
  have h0 : w.cell? ⟨p, 0, none⟩ = some (.slice (some ⟨g, 0, none⟩) s.X.length cap) := h.blk.at_ 0
  have h1 : w.cell? ⟨p, 1, none⟩ = some (.int .i64 s.c) := h.blk.at_ 1
  have h2 : w.cell? ⟨p, 2, none⟩ = some (.int .i64 s.k) := h.blk.at_ 2
  have h3 : w.cell? ⟨p, 3, none⟩ = some (.int .i64 s.i) := h.blk.at_ 3
  have h4 : w.cell? ⟨p, 4, none⟩ = some (.int .u64 s.o) := h.blk.at_ 4
  have h5 : w.cell? ⟨p, 5, none⟩ = some (.int .u64 s.v) := h.blk.at_ 5
  have hc : w.cell? ⟨g, j, none⟩ = some (.int .u64 (s.X.getD j 0)) := h.row.cell hj
  have f0 := h.blk.free 0
  have f1 := h.blk.free 1
  have f2 := h.blk.free 2
  have f3 := h.blk.free 3
  have f4 := h.blk.free 4
  have f5 := h.blk.free 5
  have fg := h.row.free j
  have hne := h.ne
  have hne' := hne.symm
  have hs := h.small
  generalize hx : s.X.getD j 0 = x at *
  have HX := Lib.hid hx
  clear hx
  go_enter Tryz.func53, Tryz.ntmps53
  go_wp2_with fail
  refine (has_yes h hj).mono ?_
  rintro e w' ⟨rfl, rfl⟩
  go_wp2_with fail
  refine hf.mono ?_
  rintro e w' ⟨rfl, rfl⟩
  clear he hf
  go_wp2
  go_ret2
  have e := HX.out
  subst e
  exact ⟨rfl, h.acc k y, ((((((Fr.refl _ _).setCell (by simp) _).setCell (by simp) _).setCell (by simp) _).setCell (by simp) _).setCell (by simp) _).setCell (by simp) _⟩

theorem access_no {w : World} {p g cap : Nat} {s : St} (h : Mem w p g cap s) {i : Int} (hi : i < 0 ∨ (s.X.length : Int) ≤ i) (k : Int) (f : Value) :
    Calls Tryz.prog 53 #[.pointer (some ⟨p, 0, none⟩), .int .i64 k, .int .i64 i, f] w fun e w' => e = .returned (.tuple #[.int .u64 0, .bool false]) ∧ w = w' := by
  go_enter Tryz.func53, Tryz.ntmps53
  go_wp2_with fail
  refine (has_no h hi).mono ?_
  rintro e w' ⟨rfl, rfl⟩
  go_wp2
  go_ret2
  exact ⟨rfl, rfl⟩

/-- access, whatever the cell. -/
theorem access_any {w : World} {p g cap : Nat} {s : St} (h : Mem w p g cap s) (k i : Int) (fk : Nat) (fc : Array Value) (F : Int → Int)
    (he : ∀ (args : Array Value) (w : World), (callFunc fk args).run Tryz.prog w = .ok (.enter fk args) w)
    (hf : ∀ x, Calls Tryz.prog fk (#[.int .u64 x] ++ fc) w fun e w' => e = .returned (.int .u64 (F x)) ∧ w = w') :
    Calls Tryz.prog 53 #[.pointer (some ⟨p, 0, none⟩), .int .i64 k, .int .i64 i, .func (.func fk) #[] fc] w fun e w' => e = .returned (.tuple #[.int .u64 (s.old i), .bool (decide (s.has i))]) ∧
      Mem w' p g cap (s.go k i F) ∧ Fr [p, g] w w' := by
  by_cases hi : s.has i
  · obtain ⟨j, rfl⟩ : ∃ j : Nat, i = (j : Int) := ⟨i.toNat, by have := hi.1; omega⟩
    have hj : j < s.X.length := by have := hi.2; omega
    refine (access_yes h hj k fk fc _ he (hf _)).mono ?_
    rintro e w' ⟨rfl, hm, hfr⟩
    simp only [St.old, St.go, if_pos hi, Int.toNat_natCast, decide_eq_true hi]
    exact ⟨trivial, hm, hfr⟩
  · refine (access_no h (St.has_no hi) k _).mono ?_
    rintro e w' ⟨rfl, rfl⟩
    simp only [St.old, St.go, if_neg hi, decide_eq_false hi]
    exact ⟨trivial, h, Fr.refl _ _⟩
end Go.Proofs.YtheimjcgpbmecaaGreat
