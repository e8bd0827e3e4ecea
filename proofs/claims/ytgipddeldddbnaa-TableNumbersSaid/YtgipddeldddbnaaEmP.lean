/-
  Package machine: Emit, and where the grown row lies. (As McH's pemit_any.)
-/
import Derived.Test.YtgipddeldddbnaaMcH
import Derived.Test.YtgipddeldddbnaaRecA
import Derived.Maps.AppendAt
namespace Go.Proofs.Ytgipddeldddbnaa
open Go Go.RowKit Go.Shelf
set_option linter.unusedSimpArgs false

/-- Blocks that are no events' are all that an access of a machine changes. -/
theorem OwnE.accs {w w' : World} {B : Nat} {v : Value} {es : List Ev} (h : OwnE w B v es) {S : List Nat} (hf : Fr S w w') (hS : ∀ j, j ∈ S → ∃ t cs, Blk w j t cs ∧ t ≠ 58) : OwnE w' B v es :=
  h.same (fun k cs hk => hf.block k (Array.getElem?_eq_some_iff.1 hk).1 (fun hm => by
    obtain ⟨t, c2, hb, ht⟩ := hS k hm
    unfold Blk at hb
    rw [hk] at hb
    simp only [Option.some.injEq, Obj.cells.injEq] at hb
    exact ht hb.2.1.symm))
theorem step_appVat {w : World} {ops : Array Oper} {o : Oper} {a : Act} {K : Act → World → Prop} {Q : Exit → Act → World → Prop} {E : Prop} (hgd : o.guard = none) (s x : Operand)
    (ho : o.op = .call { callee := .builtin .append, args := #[s, x], argTypes := #[37, 37] })
    {base : Nat} {v : Value} {l : List Ev} (hs : a.eval s = v) (hown : OwnE w base v l) {ad : Addr} {c : Nat} {e : Ev} (hx : a.eval x = .slice (some ad) 1 c) (h5 : FiveV w ad e) (hn : l.length + 1 ≤ 1000000) (hb : base ≤ w.heap.size)
    (h : ∀ v' w', OwnE w' base v' (l ++ [e]) → w.grownBy w' v.ownBlock → (v'.ownBlock = v.ownBlock ∨ v'.ownBlock = some w.heap.size) → K (a.put o.dst v') w') :
    if Region.wanted o (yielded ops a.tmps) = true then Oper.wp Try.prog o a w K Q else E := by
  obtain ⟨i0, hi, hz0, hz1, hz2⟩ := info_parts info_event
  have hw : Region.wanted o (yielded ops a.tmps) = true := by simp [Region.wanted, hgd]
  rw [if_pos hw]
  obtain ⟨v', w', hr, h1, h2, _, h3⟩ := run_append_own_at (P := Try.prog) w base 37 o.type 58 i0 _ 5 40 Try.underlying37 hi hz0 hz1 hz2 rfl (by omega) v l.length (cellsV l) hown ad 1 c (cellsV [e]) rfl h5 (cellsV_one [e]) (by unfold maxLen; omega) (by omega) hb
  unfold Oper.wp execOp
  simp only [ho, resolve, invoke, builtin, Sem.run_bind, Sem.run_pure, Result.andThen_ok, List.map_toArray, List.map_cons, List.map_nil, hs, hx, hr]
  refine h v' w' ?_ h2 h3
  unfold OwnE
  rw [cellsV_append, List.length_append]
  exact h1
/-- What Emit gives. -/
def PEmitted2 (B : Nat) (w : World) (p m k g cap : Nat) (s : St) (t d : Int) (hd : List Value) (rv ev : Value) (es : List Ev) (e : Ending) (w' : World) : Prop :=
  ∃ ev', e = .returned (.tuple #[]) ∧ PE w' p m k g cap s t d hd rv ev' ∧ OwnE w' B ev' es ∧ (∀ x, ev'.ownBlock = some x → ev.ownBlock = some x ∨ w.heap.size ≤ x) ∧ Fr (p :: ev.ownBlock.toList) w w'

set_option maxRecDepth 100000 in
set_option maxHeartbeats 4000000 in
theorem pemit2_any {B : Nat} {w : World} {p m k g cap : Nat} {s : St} {t d : Int} {hd : List Value} {rv ev : Value} {es : List Ev} (h : PE w p m k g cap s t d hd rv ev) (hev : OwnE w B ev es) (hn : es.length ≤ 900000) (hB : B ≤ w.heap.size) (kd wk tk ot lv : Int) :
    Calls Try.prog 84 #[.pointer (some ⟨p, 0, none⟩), .agg #[.int .i64 kd, .int .i64 wk, .int .i64 tk, .int .i64 ot, .int .i64 lv]] w (PEmitted2 B w p m k g cap s t d hd rv ev (es ++ [⟨kd, wk, tk, ot, lv⟩])) := by
  obtain ⟨ea, ec, hvf⟩ := hev.form
  have H := Lib.hid h
  have HV := Lib.hid hev
  have HVF := Lib.hid hvf
  have hpl := h.blk.lt
  have c23 : w.cell? ⟨p, 23, none⟩ = some (.slice ea es.length ec) := by rw [← hvf]; exact h.at23
  clear h hev hvf
  go_enter Try.func84, Try.ntmps84
  go_wp2_with fail
  have hbx := Blk.made w 58 #[.int .i64 kd, .int .i64 wk, .int .i64 tk, .int .i64 ot, .int .i64 lv]
  have hal := below_one w (.cells #[.int .i64 kd, .int .i64 wk, .int .i64 tk, .int .i64 ot, .int .i64 lv] 58)
  have H1 := Lib.hid (H.out.below hal)
  have hv1 := HV.out.below hal
  have d23 := (hal.cell (p := ⟨p, 23, none⟩) hpl).trans c23
  have HAL := Lib.hid hal
  clear c23 hal
  generalize w.alloc (.cells #[.int .i64 kd, .int .i64 wk, .int .i64 tk, .int .i64 ot, .int .i64 lv] 58) = w1 at *
  generalize hq : w.heap.size = q at *
  have HQ := Lib.hid hq
  clear hq
  have x0 := hbx.at_ 0
  have x1 := hbx.at_ 1
  have x2 := hbx.at_ 2
  have x3 := hbx.at_ 3
  have x4 := hbx.at_ 4
  simp only [List.getElem?_toArray, List.getElem?_cons_zero, List.getElem?_cons_succ] at x0 x1 x2 x3 x4
  have hl2 := below_one w1 (.cells #[.int .i64 kd, .int .i64 wk, .int .i64 tk, .int .i64 ot, .int .i64 lv] 58)
  have hqb := hbx.lt
  have hp1 : p < w1.heap.size := H1.out.blk.lt
  have y23 := (hl2.cell (p := ⟨p, 23, none⟩) hp1).trans d23
  have HO2 := Lib.hid (show OwnE (w1.alloc (.cells #[.int .i64 kd, .int .i64 wk, .int .i64 tk, .int .i64 ot, .int .i64 lv] 58)).drew B (.slice ea es.length ec) es by rw [← HVF.out]; exact (hv1.below hl2 : OwnE _ B ev es))
  have H5 := Lib.hid (show FiveV (w1.alloc (.cells #[.int .i64 kd, .int .i64 wk, .int .i64 tk, .int .i64 ot, .int .i64 lv] 58)).drew ⟨w1.heap.size, 0, none⟩ ⟨kd, wk, tk, ot, lv⟩ from fiveV_new w1 kd wk tk ot lv)
  have HL2 := Lib.hid hl2
  have HN := Lib.hid (show es.length + 1 ≤ 1000000 by omega)
  have HB2 := Lib.hid (show B ≤ (w1.alloc (.cells #[.int .i64 kd, .int .i64 wk, .int .i64 tk, .int .i64 ot, .int .i64 lv] 58)).drew.heap.size by have := HAL.out.size; have := hl2.size; show B ≤ (w1.alloc _).heap.size; omega)
  have HBX := Lib.hid hbx
  have HV1 := Lib.hid hv1
  clear hbx hl2 hv1 hqb
  have hkeep : ∀ (v4 : Value) (w4 : World), OwnE w4 B v4 (es ++ [⟨kd, wk, tk, ot, lv⟩]) → (w1.alloc (.cells #[.int .i64 kd, .int .i64 wk, .int .i64 tk, .int .i64 ot, .int .i64 lv] 58)).drew.grownBy w4 (Value.ownBlock (.slice ea es.length ec)) →
      PE w4 p m k g cap s t d hd rv ev ∧ Fr (p :: ev.ownBlock.toList) w1 w4 := by
    intro v4 w4 hown hg
    rw [← HVF.out] at hg
    have hf := fr_grownE hg
    have hp2 : PE (w1.alloc (.cells #[.int .i64 kd, .int .i64 wk, .int .i64 tk, .int .i64 ot, .int .i64 lv] 58)).drew p m k g cap s t d hd rv ev := (H1.out.below HL2.out).drewN 1
    have hv2 : OwnE (w1.alloc (.cells #[.int .i64 kd, .int .i64 wk, .int .i64 tk, .int .i64 ot, .int .i64 lv] 58)).drew B ev es := by rw [HVF.out]; exact HO2.out
    obtain ⟨cur, hgb, _⟩ := hp2.mem.row.blk
    refine ⟨hp2.fr hf (hv2.nin hp2.blk (by decide)) (hv2.nin hp2.mem.blk (by decide)) (hv2.nin hp2.clk (by decide)) (hv2.nin hgb (by decide)), ?_⟩
    exact ((Fr.refl _ _).alloc _).drew.trans (hf.mono (fun x hx => List.mem_cons_of_mem _ hx))
  have HK := Lib.hid hkeep
  clear hkeep
  go_region_law (refine step_appVat rfl (.tmp 8) (.tmp 10) rfl rfl HO2.out rfl H5.out HN.out HB2.out ?_
                 intro v4 w4 hown4 hg4 hat4
                 have HAT := Lib.hid hat4
                 clear hat4
                 obtain ⟨hpe, hfr⟩ := HK.out v4 w4 hown4 hg4
                 have k23 := hpe.at23
                 rw [HVF.out] at k23
                 have f23 := hpe.blk.free 23
                 have HPE := Lib.hid hpe
                 have HFR := Lib.hid hfr
                 have HOW := Lib.hid hown4
                 obtain ⟨va, vc, hv4⟩ := hown4.formN (n := es.length + 1) (by simp)
                 rw [hv4]
                 rw [hv4] at HOW
                 rw [hv4] at HAT
                 clear hpe hfr hown4 hg4 hv4)
  all_goals
    go_end0
    have hpe := HPE.out
    have hpb := hpe.blk
    have hs : Fr [p] w4 (w4.setCell ⟨p, 23, none⟩ (.slice va (es.length + 1) vc)) := (Fr.refl _ _).setCell (by simp) _
    refine ⟨_, rfl, hpe.put23 _, ?_, ?_, ?_⟩
    · have ho := HOW.out
      refine ⟨ho.1, ?_⟩
      rcases ho.2 with h2 | ⟨g', cap', cur, e', h2, hg', rest⟩
      · exact .inl h2
      · refine .inr ⟨g', cap', cur, e', h2, (hs.block g' (Array.getElem?_eq_some_iff.1 hg').1 (by
          simp only [List.mem_cons, List.not_mem_nil, or_false]
          intro e
          subst e
          unfold Blk at hpb
          rw [hg'] at hpb
          simp only [Option.some.injEq, Obj.cells.injEq] at hpb
          exact absurd hpb.2.1 (by decide))).trans hg', rest⟩
    · intro x hx
      rcases HAT.out with e | e
      · left
        rw [HVF.out]
        exact e.symm.trans hx
      · right
        have h1 := hx.symm.trans e
        simp only [Option.some.injEq] at h1
        have h2 := HL2.out.size
        have h3 : x = (w1.alloc (.cells #[.int .i64 kd, .int .i64 wk, .int .i64 tk, .int .i64 ot, .int .i64 lv] 58)).heap.size := h1
        have := HAL.out.size
        have := HQ.out
        omega
    · exact (Fr.old (HQ.out.symm ▸ HAL.out)).drop (HFR.out.trans (hs.mono (by simp))) (fun x hx => .inl hx)
end Go.Proofs.Ytgipddeldddbnaa
