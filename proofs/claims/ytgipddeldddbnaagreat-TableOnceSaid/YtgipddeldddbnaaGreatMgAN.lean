/-
  Package memory: Add.
  A counter, which adds 1 to a cell with each step.
  Rows of events of the call's own: what keeps them, an append.
  Slices of events that came in.
  Package machine: Emit.
-/
import Derived.Test.YtgipddeldddbnaaGreatMgAH
import Derived.Test.YtgipddeldddbnaaGreatMgAI
import Derived.Test.YtgipddeldddbnaaGreatMgAG
import Derived.Test.YtgipddeldddbnaaGreatMgAD
import Derived.Deep.RegionLaw
import Derived.RegionTactic
import Derived.BigRegion
namespace Go.Proofs.YtgipddeldddbnaaGreat
open Go Go.RowKit Go.Shelf

theorem add_fn (x v : Int) (a : Addr) (w : World) (h : w.cell? a = some (.int .u64 v)) : Calls Tryz.prog 93 #[.int .u64 x, .pointer (some a)] w fun e w' => e = .returned (.int .u64 (IntKind.u64.wrap (x + v))) ∧ w = w' := by
  go_enter Tryz.func93, Tryz.ntmps93
  go_wp2
  go_ret
  exact ⟨rfl, rfl⟩

theorem add_any {w : World} {p g cap : Nat} {s : St} (h : Mem w p g cap s) (i v : Int) :
    Calls Tryz.prog 91 #[.pointer (some ⟨p, 0, none⟩), .int .i64 i, .int .u64 v] w fun e w' => e = .returned (.int .u64 (s.old i)) ∧ Mem w' p g cap (s.go 6 i fun x => IntKind.u64.wrap (x + v)) ∧ Fr [p, g] w w' := by
  have hc : (w.alloc (.cells #[.int .u64 v] 103)).cell? ⟨w.heap.size, 0, none⟩ = some (.int .u64 v) := (Blk.made w 103 #[.int .u64 v]).at_ 0
  have H := access_any (h.alloc (.cells #[.int .u64 v] 103)) 6 i 93 #[.pointer (some ⟨w.heap.size, 0, none⟩)] _ (enters_of Tryz.func93 (by kernel_rfl) rfl) (fun x => add_fn x v _ _ hc)
  generalize s.old i = x at *
  generalize decide (s.has i) = b at *
  go_enter Tryz.func91, Tryz.ntmps91
  go_wp2_with fail
  refine H.mono ?_
  rintro e w' ⟨rfl, hm, hfr⟩
  go_wp2
  go_ret
  exact ⟨rfl, hm, ((Fr.refl _ _).alloc _).trans hfr⟩
end Go.Proofs.YtgipddeldddbnaaGreat

namespace Go.Proofs.YtgipddeldddbnaaGreat
open Go Go.RowKit Go.Shelf

end Go.Proofs.YtgipddeldddbnaaGreat

namespace Go.Proofs.YtgipddeldddbnaaGreat
open Go Go.RowKit
set_option linter.unusedSimpArgs false

theorem info_event : (Tryz.prog.info? 48).map (fun i => (i.zero, i.size, i.bytes)) = some (some (.agg #[.int .i64 0, .int .i64 0, .int .i64 0, .int .i64 0, .int .i64 0]), 5, 40) := by kernel_rfl
/-- The five cells of an event. -/
def FiveV (w : World) (x : Addr) (e : Ev) : Prop := ∀ j u, (cellsV [e])[j]? = some u → w.cell? (x.add j) = some u
theorem fiveV_new (w : World) (kd wk tk ot lv : Int) : FiveV (w.alloc (.cells #[.int .i64 kd, .int .i64 wk, .int .i64 tk, .int .i64 ot, .int .i64 lv] 48)) ⟨w.heap.size, 0, none⟩ ⟨kd, wk, tk, ot, lv⟩ := by
  have hB := Blk.made w 48 #[.int .i64 kd, .int .i64 wk, .int .i64 tk, .int .i64 ot, .int .i64 lv]
  intro j u hu
  match j, hu with
  | 0, hu => exact (hB.at_ 0).trans hu
  | 1, hu => exact (hB.at_ 1).trans hu
  | 2, hu => exact (hB.at_ 2).trans hu
  | 3, hu => exact (hB.at_ 3).trans hu
  | 4, hu => exact (hB.at_ 4).trans hu
  | j + 5, hu => simp [cellsV] at hu
theorem OwnE.below {w w' : World} {B : Nat} {v : Value} {es : List Ev} (h : OwnE w B v es) (hb : Below w.heap.size w w') : OwnE w' B v es := by
  refine ⟨h.1, ?_⟩
  rcases h.2 with h2 | ⟨g, cap, cur, rfl, h2, hg, rest⟩
  · exact .inl h2
  · exact .inr ⟨g, cap, cur, rfl, h2, (hb.block g (Array.getElem?_eq_some_iff.1 hg).1).trans hg, rest⟩
theorem OwnE.lt {w : World} {B : Nat} {v : Value} {es : List Ev} (h : OwnE w B v es) : ∀ k, v.ownBlock = some k → B ≤ k ∧ k < w.heap.size := World.ownsRow.lt h
theorem OwnE.form {w : World} {B : Nat} {v : Value} {es : List Ev} (h : OwnE w B v es) : ∃ a c, v = .slice a es.length c := by
  rcases h.2 with ⟨rfl, h2⟩ | ⟨g, cap, cur, rfl, _⟩
  · rw [h2]
    exact ⟨_, _, rfl⟩
  · exact ⟨_, _, rfl⟩
theorem OwnE.nil (w : World) (B : Nat) : OwnE w B (.slice none 0 0) [] := World.ownsRow_nil w B _ _
theorem wpList_appV {w : World} {ops : Array Oper} {rest : List Oper} {o : Oper} {a : Act} {Q : Exit → Act → World → Prop} (hgd : o.guard = none) (s x : Operand)
    (ho : o.op = .call { callee := .builtin .append, args := #[s, x], argTypes := #[38, 38] })
    {base : Nat} {v : Value} {l : List Ev} (hs : a.eval s = v) (hown : OwnE w base v l) {ad : Addr} {c : Nat} {e : Ev} (hx : a.eval x = .slice (some ad) 1 c) (h5 : FiveV w ad e) (hn : l.length + 1 ≤ 1000000) (hb : base ≤ w.heap.size)
    (h : ∀ v' w', OwnE w' base v' (l ++ [e]) → w.grownBy w' v.ownBlock → (v'.ownBlock = v.ownBlock ∨ v'.ownBlock = some w.heap.size) → wpList Tryz.prog ops Q rest (a.put o.dst v') w') :
    wpList Tryz.prog ops Q (o :: rest) a w := by
  obtain ⟨i0, hi, hz0, hz1, hz2⟩ := info_parts info_event
  refine wpList_append_own_at w hgd s x 38 ho base 48 i0 _ 5 40 Tryz.underlying38 hi hz0 hz1 hz2 rfl (by omega) v l.length (cellsV l) hs hown ad 1 c (cellsV [e]) hx rfl h5 (cellsV_one [e]) (by unfold maxLen; omega) (by omega) hb ?_
  intro v' w' h1 h2 _ h4
  refine h v' w' ?_ h2 h4
  unfold OwnE
  rw [cellsV_append, List.length_append]
  exact h1
theorem OwnE.formN {w : World} {B : Nat} {v : Value} {es : List Ev} {n : Nat} (h : OwnE w B v es) (hn : es.length = n) : ∃ a c, v = .slice a n c := by
  subst hn
  exact h.form
end Go.Proofs.YtgipddeldddbnaaGreat

namespace Go.Proofs.YtgipddeldddbnaaGreat
open Go Go.RowKit
set_option linter.unusedSimpArgs false

/-- The slice at a reads as the events es. -/
def InE (w : World) (a : Option Addr) (es : List Ev) : Prop := es.length ≤ maxLen ∧ ∀ i e, es[i]? = some e → ∃ x : Addr, a = some x ∧ x.block < w.heap.size ∧ ∀ j, j < 5 → w.cell? (x.add (i * 5 + j)) = (evV e)[j]?
theorem InE.below {w w' : World} {a : Option Addr} {es : List Ev} (h : InE w a es) (hb : Below w.heap.size w w') : InE w' a es :=
  ⟨h.1, fun i e hi => by
    obtain ⟨x, ha, hx, hc⟩ := h.2 i e hi
    exact ⟨x, ha, Nat.lt_of_lt_of_le hx hb.size, fun j hj => (hb.cell (by rw [block_add]; exact hx)).trans (hc j hj)⟩⟩
theorem InE.at_ {w : World} {a : Option Addr} {es : List Ev} (h : InE w a es) {i : Nat} {e : Ev} (hi : es[i]? = some e) :
    ∃ x : Addr, a = some x ∧ w.cell? (x.add (i * 5)) = some (.int .i64 e.kd) ∧ w.cell? ⟨(x.add (i * 5)).block, (x.add (i * 5)).off + 1, none⟩ = some (.int .i64 e.wk) ∧ w.cell? ⟨(x.add (i * 5)).block, (x.add (i * 5)).off + 2, none⟩ = some (.int .i64 e.tk)
      ∧ w.cell? ⟨(x.add (i * 5)).block, (x.add (i * 5)).off + 3, none⟩ = some (.int .i64 e.ot) ∧ w.cell? ⟨(x.add (i * 5)).block, (x.add (i * 5)).off + 4, none⟩ = some (.int .i64 e.lv) := by
  obtain ⟨x, ha, _, hc⟩ := h.2 i e hi
  exact ⟨x, ha, hc 0 (by omega), cell_field (i := i * 5) (j := 0) (hc 1 (by omega)), cell_field (i := i * 5) (j := 1) (hc 2 (by omega)), cell_field (i := i * 5) (j := 2) (hc 3 (by omega)), cell_field (i := i * 5) (j := 3) (hc 4 (by omega))⟩
theorem OwnE.inE {w : World} {B : Nat} {v : Value} {es : List Ev} (h : OwnE w B v es) : ∃ a c, v = .slice a es.length c ∧ InE w a es := by
  rcases h.2 with ⟨rfl, h2⟩ | ⟨g, cap, cur, rfl, _, hg, hn, hm, _, _⟩
  · have hl : es.length = 0 := h2
    have : es = [] := List.length_eq_zero_iff.1 hl
    subst this
    exact ⟨none, 0, rfl, by unfold maxLen; omega, fun i e hi => by simp at hi⟩
  · refine ⟨_, _, rfl, by unfold maxLen at *; omega, fun i e hi => ⟨_, rfl, (Array.getElem?_eq_some_iff.1 hg).1, fun j hj => ?_⟩⟩
    have e1 := cellsV_at es i j e hi hj
    have hlt : j < (evV e).size := hj
    rw [Array.getElem?_eq_getElem hlt] at e1 ⊢
    exact World.ownsRow.cells h rfl _ _ e1
end Go.Proofs.YtgipddeldddbnaaGreat

namespace Go.Proofs.YtgipddeldddbnaaGreat
open Go Go.RowKit Go.Shelf
set_option linter.unusedSimpArgs false

theorem step_appV {w : World} {ops : Array Oper} {o : Oper} {a : Act} {K : Act → World → Prop} {Q : Exit → Act → World → Prop} {E : Prop} (hgd : o.guard = none) (s x : Operand)
    (ho : o.op = .call { callee := .builtin .append, args := #[s, x], argTypes := #[38, 38] })
    {base : Nat} {v : Value} {l : List Ev} (hs : a.eval s = v) (hown : OwnE w base v l) {ad : Addr} {c : Nat} {e : Ev} (hx : a.eval x = .slice (some ad) 1 c) (h5 : FiveV w ad e) (hn : l.length + 1 ≤ 1000000) (hb : base ≤ w.heap.size)
    (h : ∀ v' w', OwnE w' base v' (l ++ [e]) → w.grownBy w' v.ownBlock → K (a.put o.dst v') w') :
    if Region.wanted o (yielded ops a.tmps) = true then Oper.wp Tryz.prog o a w K Q else E := by
  obtain ⟨i0, hi, hz0, hz1, hz2⟩ := info_parts info_event
  have hw : Region.wanted o (yielded ops a.tmps) = true := by simp [Region.wanted, hgd]
  rw [if_pos hw]
  refine wp_append_own w s x 38 ho base 48 i0 _ 5 40 Tryz.underlying38 hi hz0 hz1 hz2 rfl (by omega) v l.length (cellsV l) hs hown ad 1 c (cellsV [e]) hx rfl h5 (cellsV_one [e]) (by unfold maxLen; omega) (by omega) hb ?_
  intro v' w' h1 h2 _
  refine h v' w' ?_ h2
  unfold OwnE
  rw [cellsV_append, List.length_append]
  exact h1

/-- What Emit gives. -/
def PEmitted (B : Nat) (w : World) (p m k g cap : Nat) (s : St) (t d : Int) (hd : List Value) (rv ev : Value) (es : List Ev) (e : Ending) (w' : World) : Prop :=
  ∃ ev', e = .returned (.tuple #[]) ∧ PE w' p m k g cap s t d hd rv ev' ∧ OwnE w' B ev' es ∧ Fr (p :: ev.ownBlock.toList) w w'

theorem OwnE.nin {w : World} {base : Nat} {v : Value} {l : List Ev} (h : OwnE w base v l) {g : Nat} {t : TypeId} {cs : Array Value} (hg : Blk w g t cs) (ht : t ≠ 48) : g ∉ v.ownBlock.toList := by
  rcases h.2 with ⟨rfl, _⟩ | ⟨g', cap, cur, rfl, h2, hg', rest⟩
  · simp [Value.ownBlock]
  · simp only [Value.ownBlock, Option.toList_some, List.mem_cons, List.not_mem_nil, or_false]
    intro e
    subst e
    unfold Blk at hg
    rw [hg'] at hg
    simp only [Option.some.injEq, Obj.cells.injEq] at hg
    exact ht hg.2.1.symm
theorem fr_grownE {w w' : World} {o : Option Nat} (h : w.grownBy w' o) : Fr o.toList w w' :=
  ⟨h.os, h.tape, h.output, h.size, fun k hk hn => h.block k hk (fun e => hn (by rw [← e]; simp))⟩
theorem PE.put23 {w : World} {p m k g cap : Nat} {s : St} {t d : Int} {hd : List Value} {rv ev : Value} (h : PE w p m k g cap s t d hd rv ev) (v : Value) : PE (w.setCell ⟨p, 23, none⟩ v) p m k g cap s t d hd rv v := by
  have hf : Fr [p] w (w.setCell ⟨p, 23, none⟩ v) := (Fr.refl _ _).setCell (by simp) v
  have hb := h.blk.put 23 v
  refine ⟨?_, h.len, h.mem.fr hf (by simpa using h.hpm.symm) (by simpa using h.hpg.symm), h.clk.fr hf (by simpa using h.hpk.symm)⟩
  have e : ((hd ++ [.pointer (some ⟨m, 0, none⟩), .pointer (some ⟨k, 0, none⟩), rv, ev]).toArray).setIfInBounds 23 v = (hd ++ [.pointer (some ⟨m, 0, none⟩), .pointer (some ⟨k, 0, none⟩), rv, v]).toArray := by
    rw [List.setIfInBounds_toArray, List.set_append_right _ _ (by rw [h.len]; decide), h.len]
    rfl
  rw [e] at hb
  exact hb

set_option maxRecDepth 100000 in
set_option maxHeartbeats 4000000 in
theorem pemit_any {B : Nat} {w : World} {p m k g cap : Nat} {s : St} {t d : Int} {hd : List Value} {rv ev : Value} {es : List Ev} (h : PE w p m k g cap s t d hd rv ev) (hev : OwnE w B ev es) (hn : es.length ≤ 900000) (hB : B ≤ w.heap.size) (kd wk tk ot lv : Int) :
    Calls Tryz.prog 88 #[.pointer (some ⟨p, 0, none⟩), .agg #[.int .i64 kd, .int .i64 wk, .int .i64 tk, .int .i64 ot, .int .i64 lv]] w (PEmitted B w p m k g cap s t d hd rv ev (es ++ [⟨kd, wk, tk, ot, lv⟩])) := by
  obtain ⟨ea, ec, hvf⟩ := hev.form
  have H := Lib.hid h
  have HV := Lib.hid hev
  have HVF := Lib.hid hvf
  have hpl := h.blk.lt
  have c23 : w.cell? ⟨p, 23, none⟩ = some (.slice ea es.length ec) := by rw [← hvf]; exact h.at23
  clear h hev hvf
  go_enter Tryz.func88, Tryz.ntmps88
  go_wp2_with fail
  have hbx := Blk.made w 48 #[.int .i64 kd, .int .i64 wk, .int .i64 tk, .int .i64 ot, .int .i64 lv]
  have hal := below_one w (.cells #[.int .i64 kd, .int .i64 wk, .int .i64 tk, .int .i64 ot, .int .i64 lv] 48)
  have H1 := Lib.hid (H.out.below hal)
  have hv1 := HV.out.below hal
  have d23 := (hal.cell (p := ⟨p, 23, none⟩) hpl).trans c23
  have HAL := Lib.hid hal
  clear c23 hal
  generalize w.alloc (.cells #[.int .i64 kd, .int .i64 wk, .int .i64 tk, .int .i64 ot, .int .i64 lv] 48) = w1 at *
  generalize hq : w.heap.size = q at *
  have HQ := Lib.hid hq
  clear hq
  have x0 := hbx.at_ 0
  have x1 := hbx.at_ 1
  have x2 := hbx.at_ 2
  have x3 := hbx.at_ 3
  have x4 := hbx.at_ 4
  simp only [List.getElem?_toArray, List.getElem?_cons_zero, List.getElem?_cons_succ] at x0 x1 x2 x3 x4
  have hl2 := below_one w1 (.cells #[.int .i64 kd, .int .i64 wk, .int .i64 tk, .int .i64 ot, .int .i64 lv] 48)
  have hqb := hbx.lt
  have hp1 : p < w1.heap.size := H1.out.blk.lt
  have y23 := (hl2.cell (p := ⟨p, 23, none⟩) hp1).trans d23
  have HO2 := Lib.hid (show OwnE (w1.alloc (.cells #[.int .i64 kd, .int .i64 wk, .int .i64 tk, .int .i64 ot, .int .i64 lv] 48)).drew B (.slice ea es.length ec) es by rw [← HVF.out]; exact (hv1.below hl2 : OwnE _ B ev es))
  have H5 := Lib.hid (show FiveV (w1.alloc (.cells #[.int .i64 kd, .int .i64 wk, .int .i64 tk, .int .i64 ot, .int .i64 lv] 48)).drew ⟨w1.heap.size, 0, none⟩ ⟨kd, wk, tk, ot, lv⟩ from fiveV_new w1 kd wk tk ot lv)
  have HL2 := Lib.hid hl2
  have HN := Lib.hid (show es.length + 1 ≤ 1000000 by omega)
  have HB2 := Lib.hid (show B ≤ (w1.alloc (.cells #[.int .i64 kd, .int .i64 wk, .int .i64 tk, .int .i64 ot, .int .i64 lv] 48)).drew.heap.size by have := HAL.out.size; have := hl2.size; show B ≤ (w1.alloc _).heap.size; omega)
  have HBX := Lib.hid hbx
  have HV1 := Lib.hid hv1
  clear hbx hl2 hv1 hqb
  have hkeep : ∀ (v4 : Value) (w4 : World), OwnE w4 B v4 (es ++ [⟨kd, wk, tk, ot, lv⟩]) → (w1.alloc (.cells #[.int .i64 kd, .int .i64 wk, .int .i64 tk, .int .i64 ot, .int .i64 lv] 48)).drew.grownBy w4 (Value.ownBlock (.slice ea es.length ec)) →
      PE w4 p m k g cap s t d hd rv ev ∧ Fr (p :: ev.ownBlock.toList) w1 w4 := by
    intro v4 w4 hown hg
    rw [← HVF.out] at hg
    have hf := fr_grownE hg
    have hp2 : PE (w1.alloc (.cells #[.int .i64 kd, .int .i64 wk, .int .i64 tk, .int .i64 ot, .int .i64 lv] 48)).drew p m k g cap s t d hd rv ev := (H1.out.below HL2.out).drewN 1
    have hv2 : OwnE (w1.alloc (.cells #[.int .i64 kd, .int .i64 wk, .int .i64 tk, .int .i64 ot, .int .i64 lv] 48)).drew B ev es := by rw [HVF.out]; exact HO2.out
    obtain ⟨cur, hgb, _⟩ := hp2.mem.row.blk
    refine ⟨hp2.fr hf (hv2.nin hp2.blk (by decide)) (hv2.nin hp2.mem.blk (by decide)) (hv2.nin hp2.clk (by decide)) (hv2.nin hgb (by decide)), ?_⟩
    exact ((Fr.refl _ _).alloc _).drew.trans (hf.mono (fun x hx => List.mem_cons_of_mem _ hx))
  have HK := Lib.hid hkeep
  clear hkeep
  go_region_law (refine step_appV rfl (.tmp 8) (.tmp 10) rfl rfl HO2.out rfl H5.out HN.out HB2.out ?_
                 intro v4 w4 hown4 hg4
                 obtain ⟨hpe, hfr⟩ := HK.out v4 w4 hown4 hg4
                 have k23 := hpe.at23
                 rw [HVF.out] at k23
                 have f23 := hpe.blk.free 23
                 have HPE := Lib.hid hpe
                 have HFR := Lib.hid hfr
                 have HOW := Lib.hid hown4
                 obtain ⟨va, vc, hv4⟩ := hown4.formN (n := es.length + 1) (by simp)
                 rw [hv4]
                 rw [hv4] at HOW
                 clear hpe hfr hown4 hg4 hv4)
  all_goals
    go_end0
    have hpe := HPE.out
    have hpb := hpe.blk
    have hs : Fr [p] w4 (w4.setCell ⟨p, 23, none⟩ (.slice va (es.length + 1) vc)) := (Fr.refl _ _).setCell (by simp) _
    refine ⟨_, rfl, hpe.put23 _, ?_, ?_⟩
    · have ho := HOW.out
      refine ⟨ho.1, ?_⟩
      rcases ho.2 with h2 | ⟨g', cap', cur, e', h2, hg', rest⟩
      · exact .inl h2
      · refine .inr ⟨g', cap', cur, e', h2, (hs.block g' (Array.getElem?_eq_some_iff.1 hg').1 (by
          simp only [List.mem_cons, List.not_mem_nil, or_false]
          intro e
          subst e
          unfold Blk at hpb
          rw [hg'] at hpb
          simp only [Option.some.injEq, Obj.cells.injEq] at hpb
          exact absurd hpb.2.1 (by decide))).trans hg', rest⟩
    · exact (Fr.old (HQ.out.symm ▸ HAL.out)).drop (HFR.out.trans (hs.mono (by simp))) (fun x hx => .inl hx)
end Go.Proofs.YtgipddeldddbnaaGreat
