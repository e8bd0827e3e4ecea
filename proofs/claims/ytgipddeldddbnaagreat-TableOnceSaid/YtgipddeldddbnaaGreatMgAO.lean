/-
  Package machine: Emit, and where the grown row lies. (As McH's pemit_any.)
  Rows of the call's own beside other blocks.
  Records as rows of the call's own: other blocks change, a record with children is appended. No function is named.
  Package memory: Cas.
  Package memory: Store.
  Package clock: Now.
-/
import Derived.Test.YtgipddeldddbnaaGreatMgAN
import Derived.Test.YtgipddeldddbnaaGreatMgAG
import Derived.Maps.AppendAt
import Derived.Laws.AppendOwnNone
import Derived.Test.YtgipddeldddbnaaGreatMgAH
import Derived.Test.YtgipddeldddbnaaGreatMgAI
import Derived.WalkSpells
import Derived.WalkLawsBesides
import Derived.Lib.Hide
import Derived.Deep.RegionHeld3
import Derived.IntWalk
namespace Go.Proofs.YtgipddeldddbnaaGreat
open Go Go.RowKit Go.Shelf
set_option linter.unusedSimpArgs false

/-- Blocks that are no events' are all that an access of a machine changes. -/
theorem OwnE.accs {w w' : World} {B : Nat} {v : Value} {es : List Ev} (h : OwnE w B v es) {S : List Nat} (hf : Fr S w w') (hS : ∀ j, j ∈ S → ∃ t cs, Blk w j t cs ∧ t ≠ 48) : OwnE w' B v es :=
  h.same (fun k cs hk => hf.block k (Array.getElem?_eq_some_iff.1 hk).1 (fun hm => by
    obtain ⟨t, c2, hb, ht⟩ := hS k hm
    unfold Blk at hb
    rw [hk] at hb
    simp only [Option.some.injEq, Obj.cells.injEq] at hb
    exact ht hb.2.1.symm))
theorem step_appVat {w : World} {ops : Array Oper} {o : Oper} {a : Act} {K : Act → World → Prop} {Q : Exit → Act → World → Prop} {E : Prop} (hgd : o.guard = none) (s x : Operand)
    (ho : o.op = .call { callee := .builtin .append, args := #[s, x], argTypes := #[38, 38] })
    {base : Nat} {v : Value} {l : List Ev} (hs : a.eval s = v) (hown : OwnE w base v l) {ad : Addr} {c : Nat} {e : Ev} (hx : a.eval x = .slice (some ad) 1 c) (h5 : FiveV w ad e) (hn : l.length + 1 ≤ 1000000) (hb : base ≤ w.heap.size)
    (h : ∀ v' w', OwnE w' base v' (l ++ [e]) → w.grownBy w' v.ownBlock → (v'.ownBlock = v.ownBlock ∨ v'.ownBlock = some w.heap.size) → K (a.put o.dst v') w') :
    if Region.wanted o (yielded ops a.tmps) = true then Oper.wp Tryz.prog o a w K Q else E := by
  obtain ⟨i0, hi, hz0, hz1, hz2⟩ := info_parts info_event
  have hw : Region.wanted o (yielded ops a.tmps) = true := by simp [Region.wanted, hgd]
  rw [if_pos hw]
  obtain ⟨v', w', hr, h1, h2, _, h3⟩ := run_append_own_at (P := Tryz.prog) w base 38 o.type 48 i0 _ 5 40 Tryz.underlying38 hi hz0 hz1 hz2 rfl (by omega) v l.length (cellsV l) hown ad 1 c (cellsV [e]) rfl h5 (cellsV_one [e]) (by unfold maxLen; omega) (by omega) hb
  unfold Oper.wp execOp
  simp only [ho, resolve, invoke, builtin, Sem.run_bind, Sem.run_pure, Result.andThen_ok, List.map_toArray, List.map_cons, List.map_nil, hs, hx, hr]
  refine h v' w' ?_ h2 h3
  unfold OwnE
  rw [cellsV_append, List.length_append]
  exact h1
/-- What Emit gives. -/
def PEmitted2 (B : Nat) (w : World) (p m k g cap : Nat) (s : St) (t d : Int) (hd : List Value) (rv ev : Value) (es : List Ev) (e : Ending) (w' : World) : Prop :=
  ∃ ev', e = .returned (.tuple #[]) ∧ PE w' p m k g cap s t d hd rv ev' ∧ OwnE w' B ev' es ∧ (∀ x, ev'.ownBlock = some x → ev.ownBlock = some x ∨ w.heap.size ≤ x) ∧ Fr (p :: ev.ownBlock.toList) w w'

set_option maxRecDepth 100000 in
set_option maxHeartbeats 4000000 in
theorem pemit2_any {B : Nat} {w : World} {p m k g cap : Nat} {s : St} {t d : Int} {hd : List Value} {rv ev : Value} {es : List Ev} (h : PE w p m k g cap s t d hd rv ev) (hev : OwnE w B ev es) (hn : es.length ≤ 900000) (hB : B ≤ w.heap.size) (kd wk tk ot lv : Int) :
    Calls Tryz.prog 88 #[.pointer (some ⟨p, 0, none⟩), .agg #[.int .i64 kd, .int .i64 wk, .int .i64 tk, .int .i64 ot, .int .i64 lv]] w (PEmitted2 B w p m k g cap s t d hd rv ev (es ++ [⟨kd, wk, tk, ot, lv⟩])) := by
  obtain ⟨ea, ec, hvf⟩ := hev.form
  have H := Lib.hid h
  have HV := Lib.hid hev
  have HVF := Lib.hid hvf
  have hpl := h.blk.lt
  have c23 : w.cell? ⟨p, 23, none⟩ = some (.slice ea es.length ec) := by rw [← hvf]; exact h.at23
  clear h hev hvf
  go_enter Tryz.func88, Tryz.ntmps88
  go_wp2_with fail
  have hbx := Blk.made w 48 #[.int .i64 kd, .int .i64 wk, .int .i64 tk, .int .i64 ot, .int .i64 lv]
  have hal := below_one w (.cells #[.int .i64 kd, .int .i64 wk, .int .i64 tk, .int .i64 ot, .int .i64 lv] 48)
  have H1 := Lib.hid (H.out.below hal)
  have hv1 := HV.out.below hal
  have d23 := (hal.cell (p := ⟨p, 23, none⟩) hpl).trans c23
  have HAL := Lib.hid hal
  clear c23 hal
  generalize w.alloc (.cells #[.int .i64 kd, .int .i64 wk, .int .i64 tk, .int .i64 ot, .int .i64 lv] 48) = w1 at *
  generalize hq : w.heap.size = q at *
  have HQ := Lib.hid hq
  clear hq
  have x0 := hbx.at_ 0
  have x1 := hbx.at_ 1
  have x2 := hbx.at_ 2
  have x3 := hbx.at_ 3
  have x4 := hbx.at_ 4
  simp only [List.getElem?_toArray, List.getElem?_cons_zero, List.getElem?_cons_succ] at x0 x1 x2 x3 x4
  have hl2 := below_one w1 (.cells #[.int .i64 kd, .int .i64 wk, .int .i64 tk, .int .i64 ot, .int .i64 lv] 48)
  have hqb := hbx.lt
  have hp1 : p < w1.heap.size := H1.out.blk.lt
  have y23 := (hl2.cell (p := ⟨p, 23, none⟩) hp1).trans d23
  have HO2 := Lib.hid (show OwnE (w1.alloc (.cells #[.int .i64 kd, .int .i64 wk, .int .i64 tk, .int .i64 ot, .int .i64 lv] 48)).drew B (.slice ea es.length ec) es by rw [← HVF.out]; exact (hv1.below hl2 : OwnE _ B ev es))
  have H5 := Lib.hid (show FiveV (w1.alloc (.cells #[.int .i64 kd, .int .i64 wk, .int .i64 tk, .int .i64 ot, .int .i64 lv] 48)).drew ⟨w1.heap.size, 0, none⟩ ⟨kd, wk, tk, ot, lv⟩ from fiveV_new w1 kd wk tk ot lv)
  have HL2 := Lib.hid hl2
  have HN := Lib.hid (show es.length + 1 ≤ 1000000 by omega)
  have HB2 := Lib.hid (show B ≤ (w1.alloc (.cells #[.int .i64 kd, .int .i64 wk, .int .i64 tk, .int .i64 ot, .int .i64 lv] 48)).drew.heap.size by have := HAL.out.size; have := hl2.size; show B ≤ (w1.alloc _).heap.size; omega)
  have HBX := Lib.hid hbx
  have HV1 := Lib.hid hv1
  clear hbx hl2 hv1 hqb
  have hkeep : ∀ (v4 : Value) (w4 : World), OwnE w4 B v4 (es ++ [⟨kd, wk, tk, ot, lv⟩]) → (w1.alloc (.cells #[.int .i64 kd, .int .i64 wk, .int .i64 tk, .int .i64 ot, .int .i64 lv] 48)).drew.grownBy w4 (Value.ownBlock (.slice ea es.length ec)) →
      PE w4 p m k g cap s t d hd rv ev ∧ Fr (p :: ev.ownBlock.toList) w1 w4 := by
    intro v4 w4 hown hg
    rw [← HVF.out] at hg
    have hf := fr_grownE hg
    have hp2 : PE (w1.alloc (.cells #[.int .i64 kd, .int .i64 wk, .int .i64 tk, .int .i64 ot, .int .i64 lv] 48)).drew p m k g cap s t d hd rv ev := (H1.out.below HL2.out).drewN 1
    have hv2 : OwnE (w1.alloc (.cells #[.int .i64 kd, .int .i64 wk, .int .i64 tk, .int .i64 ot, .int .i64 lv] 48)).drew B ev es := by rw [HVF.out]; exact HO2.out
    obtain ⟨cur, hgb, _⟩ := hp2.mem.row.blk
    refine ⟨hp2.fr hf (hv2.nin hp2.blk (by decide)) (hv2.nin hp2.mem.blk (by decide)) (hv2.nin hp2.clk (by decide)) (hv2.nin hgb (by decide)), ?_⟩
    exact ((Fr.refl _ _).alloc _).drew.trans (hf.mono (fun x hx => List.mem_cons_of_mem _ hx))
  have HK := Lib.hid hkeep
  clear hkeep
  go_region_law (refine step_appVat rfl (.tmp 8) (.tmp 10) rfl rfl HO2.out rfl H5.out HN.out HB2.out ?_
                 intro v4 w4 hown4 hg4 hat4
                 have HAT := Lib.hid hat4
                 clear hat4
                 obtain ⟨hpe, hfr⟩ := HK.out v4 w4 hown4 hg4
                 have k23 := hpe.at23
                 rw [HVF.out] at k23
                 have f23 := hpe.blk.free 23
                 have HPE := Lib.hid hpe
                 have HFR := Lib.hid hfr
                 have HOW := Lib.hid hown4
                 obtain ⟨va, vc, hv4⟩ := hown4.formN (n := es.length + 1) (by simp)
                 rw [hv4]
                 rw [hv4] at HOW
                 rw [hv4] at HAT
                 clear hpe hfr hown4 hg4 hv4)
  all_goals
    go_end0
    have hpe := HPE.out
    have hpb := hpe.blk
    have hs : Fr [p] w4 (w4.setCell ⟨p, 23, none⟩ (.slice va (es.length + 1) vc)) := (Fr.refl _ _).setCell (by simp) _
    refine ⟨_, rfl, hpe.put23 _, ?_, ?_, ?_⟩
    · have ho := HOW.out
      refine ⟨ho.1, ?_⟩
      rcases ho.2 with h2 | ⟨g', cap', cur, e', h2, hg', rest⟩
      · exact .inl h2
      · refine .inr ⟨g', cap', cur, e', h2, (hs.block g' (Array.getElem?_eq_some_iff.1 hg').1 (by
          simp only [List.mem_cons, List.not_mem_nil, or_false]
          intro e
          subst e
          unfold Blk at hpb
          rw [hg'] at hpb
          simp only [Option.some.injEq, Obj.cells.injEq] at hpb
          exact absurd hpb.2.1 (by decide))).trans hg', rest⟩
    · intro x hx
      rcases HAT.out with e | e
      · left
        rw [HVF.out]
        exact e.symm.trans hx
      · right
        have h1 := hx.symm.trans e
        simp only [Option.some.injEq] at h1
        have h2 := HL2.out.size
        have h3 : x = (w1.alloc (.cells #[.int .i64 kd, .int .i64 wk, .int .i64 tk, .int .i64 ot, .int .i64 lv] 48)).heap.size := h1
        have := HAL.out.size
        have := HQ.out
        omega
    · exact (Fr.old (HQ.out.symm ▸ HAL.out)).drop (HFR.out.trans (hs.mono (by simp))) (fun x hx => .inl hx)
end Go.Proofs.YtgipddeldddbnaaGreat

namespace Go.Proofs.YtgipddeldddbnaaGreat
open Go Go.RowKit
set_option linter.unusedSimpArgs false

theorem ty_at {w : World} {k : Nat} {t t' : TypeId} {cs cs' : Array Value} (h : Blk w k t cs) (h' : w.heap[k]? = some (Obj.cells cs' t' (0, 0))) : t = t' := by
  unfold Blk at h
  rw [h] at h'
  simp only [Option.some.injEq, Obj.cells.injEq] at h'
  exact h'.2.1
theorem row_frS {w w' : World} {S : List Nat} {base : Nat} {t : TypeId} {s : Nat} {v : Value} {n : Nat} {vs : List Value} (h : w.ownsRow base t s v n vs) (hf : Fr S w w') (hn : ∀ k, v.ownBlock = some k → k ∉ S) : w'.ownsRow base t s v n vs :=
  row_same h (fun k hk => hf.block k (World.ownsRow.lt h k hk).2 (hn k hk))
end Go.Proofs.YtgipddeldddbnaaGreat

namespace Go.Proofs.YtgipddeldddbnaaGreat
open Go Go.RowKit
set_option linter.unusedSimpArgs false

theorem OwnR.frS {w w' : World} {S : List Nat} {B : Nat} {v : Value} {rs : List Rec} (h : OwnR w B v rs) (hf : Fr S w w') (hn : ∀ k, v.ownBlock = some k → k ∉ S) (hi : ∀ (k : Nat) (cs : Array Value), k ∈ S → w.heap[k]? ≠ some (Obj.cells cs 3 (0, 0))) : OwnR w' B v rs := by
  obtain ⟨ks, a, b, c⟩ := h
  refine ⟨ks, a, row_frS b hf hn, fun i hi' => row_frS (c i hi') hf (fun k hk hm => ?_)⟩
  rcases (c i hi').2 with ⟨e, _⟩ | ⟨g, cap, cur, e, _, hg, _⟩
  · rw [e] at hk
    simp [Value.ownBlock] at hk
  · rw [e] at hk
    simp only [Value.ownBlock, Option.some.injEq] at hk
    subst hk
    exact hi g cur hm hg

theorem info_recF : (Tryz.prog.info? 51).map (fun i => (i.zero, i.size, i.bytes)) = some (some (.agg #[.int .i64 0, .int .i64 0, .int .i64 0, .int .i64 0, .int .i64 0, .slice none 0 0, .bool false]), 7, 72) := by kernel_rfl
theorem cellsR_app : ∀ (l : List Rec) (ks : List Value) (r : Rec) (k : Value), ks.length = l.length → cellsR (l ++ [r]) (ks ++ [k]) = cellsR l ks ++ rcl r k
  | [], [], _, _, _ => rfl
  | [], _ :: _, _, _, h => by simp at h
  | _ :: _, [], _, _, h => by simp at h
  | e :: l, x :: ks, r, k, h => by
    have := cellsR_app l ks r k (by simpa using h)
    simp only [List.cons_append, cellsR, List.headD_cons, List.tail_cons, this]
theorem OwnI.oneCell {w : World} {B : Nat} {v : Value} {l : List Int} (h : OwnI w B v l) : v.oneCell' = true := by
  obtain ⟨a, c, rfl, _⟩ := h.form
  rfl
/-- An append of one record, with its children's row. -/
theorem wpList_appRk {w : World} {ops : Array Oper} {rest : List Oper} {o : Oper} {a : Act} {Q : Exit → Act → World → Prop} (hgd : o.guard = none) (s x : Operand)
    (ho : o.op = .call { callee := .builtin .append, args := #[s, x], argTypes := #[37, 37] })
    {base : Nat} {v : Value} {l : List Rec} (hs : a.eval s = v) (hown : OwnR w base v l) {ad : Addr} {c : Nat} {r : Rec} {kv : Value} (hk : OwnI w base kv r.ks) (hx : a.eval x = .slice (some ad) 1 c) (h5 : ∀ j u, (rcl r kv)[j]? = some u → w.cell? (ad.add j) = some u) (hn : l.length + 1 ≤ 1000000) (hb : base ≤ w.heap.size)
    (h : ∀ v' w', OwnR w' base v' (l ++ [r]) → w.grownBy w' v.ownBlock → wpList Tryz.prog ops Q rest (a.put o.dst v') w') : wpList Tryz.prog ops Q (o :: rest) a w := by
  obtain ⟨i0, hi, hz0, hz1, hz2⟩ := info_parts info_recF
  obtain ⟨ks, h1, h2, h3⟩ := hown
  have hkv := hk.oneCell
  refine wpList_append_own_at w hgd s x 37 ho base 51 i0 _ 7 72 Tryz.underlying37 hi hz0 hz1 hz2 rfl (by omega) v l.length (cellsR l ks) hs h2 ad 1 c (rcl r kv) hx rfl h5 (by
    intro u hu
    simp only [List.mem_cons, List.not_mem_nil, or_false] at hu
    rcases hu with rfl | rfl | rfl | rfl | rfl | rfl | rfl
    all_goals first | rfl | exact hkv) (by unfold maxLen; omega) (by omega) hb ?_
  intro v' w' g1 g2 _ _
  have keep : ∀ {u : Value} {q : List Int}, OwnI w base u q → OwnI w' base u q := by
    intro u q hu
    refine row_same hu (fun k hk' => ?_)
    rcases hu.2 with ⟨e, _⟩ | ⟨g, cap, cur, e, _, hg, _⟩
    · rw [e] at hk'
      cases hk'
    · rw [e] at hk'
      simp only [Value.ownBlock, Option.some.injEq] at hk'
      subst hk'
      exact g2.block g (Array.getElem?_eq_some_iff.1 hg).1 (fun e => row_apart h2 hg (by decide) g e.symm rfl)
  refine h v' w' ⟨ks ++ [kv], by simp [h1], ?_, fun i hi => ?_⟩ g2
  · rw [cellsR_app l ks r _ h1, List.length_append]
    exact g1
  · by_cases hil : i < l.length
    · have e1 : (ks ++ [kv]).getD i (.slice none 0 0) = ks.getD i (.slice none 0 0) := by
        rw [List.getD_eq_getElem?_getD, List.getD_eq_getElem?_getD, List.getElem?_append_left (by omega)]
      have e2 : ((l ++ [r]).map Rec.ks).getD i [] = (l.map Rec.ks).getD i [] := by
        rw [List.map_append, List.getD_eq_getElem?_getD, List.getD_eq_getElem?_getD, List.getElem?_append_left (by simpa using hil)]
      rw [e1, e2]
      exact keep (h3 i hil)
    · have hie : i = l.length := by
        simp at hi
        omega
      subst hie
      have e1 : (ks ++ [kv]).getD l.length (.slice none 0 0) = kv := by
        rw [List.getD_eq_getElem?_getD, List.getElem?_append_right (by omega), h1, Nat.sub_self]
        rfl
      have e2 : ((l ++ [r]).map Rec.ks).getD l.length [] = r.ks := by
        rw [List.map_append, List.getD_eq_getElem?_getD, List.getElem?_append_right (by simp), List.length_map, Nat.sub_self]
        rfl
      rw [e1, e2]
      exact keep hk
end Go.Proofs.YtgipddeldddbnaaGreat

namespace Go.Proofs.YtgipddeldddbnaaGreat
open Go Go.RowKit Go.Shelf

theorem cas_fn (x v u : Int) (a b : Addr) (w : World) (h : w.cell? a = some (.int .u64 v)) (h' : w.cell? b = some (.int .u64 u)) : Calls Tryz.prog 87 #[.int .u64 x, .pointer (some a), .pointer (some b)] w fun e w' => e = .returned (.int .u64 (if x = v then u else x)) ∧ w = w' := by
  by_cases hx : x = v
  · subst hx
    go_enter Tryz.func87, Tryz.ntmps87
    go_wp2
    go_ret
    exact ⟨by simp, rfl⟩
  · have hb : (x == v) = false := by simpa using hx
    go_enter Tryz.func87, Tryz.ntmps87
    go_wp2
    go_ret
    exact ⟨by simp, rfl⟩

theorem cas_any {w : World} {p g cap : Nat} {s : St} (h : Mem w p g cap s) (i v u : Int) :
    Calls Tryz.prog 84 #[.pointer (some ⟨p, 0, none⟩), .int .i64 i, .int .u64 v, .int .u64 u] w fun e w' => e = .returned (.bool (s.hit i v)) ∧ Mem w' p g cap (s.go 3 i fun x => if x = v then u else x) ∧ Fr [p, g] w w' := by
  have hc : ((w.alloc (.cells #[.int .u64 v] 103)).alloc (.cells #[.int .u64 u] 103)).cell? ⟨w.heap.size, 0, none⟩ = some (.int .u64 v) := ((Blk.made w 103 #[.int .u64 v]).of_same (Below.heap_alloc _ _ _ (by simp))).at_ 0
  have hd : ((w.alloc (.cells #[.int .u64 v] 103)).alloc (.cells #[.int .u64 u] 103)).cell? ⟨w.heap.size + 1, 0, none⟩ = some (.int .u64 u) := by
    simp
  have H := access_any ((h.alloc (.cells #[.int .u64 v] 103)).alloc (.cells #[.int .u64 u] 103)) 3 i 87 #[.pointer (some ⟨w.heap.size, 0, none⟩), .pointer (some ⟨w.heap.size + 1, 0, none⟩)] _ (enters_of Tryz.func87 (by kernel_rfl) rfl) (fun x => cas_fn x v u _ _ _ hc hd)
  unfold St.hit
  by_cases hi : s.has i
  · simp only [decide_eq_true hi] at H ⊢
    generalize s.old i = x at *
    clear hd hi
    go_enter Tryz.func84, Tryz.ntmps84
    go_wp2_with fail
    refine H.mono ?_
    rintro e w' ⟨rfl, hm, hfr⟩
    have hc' : w'.cell? ⟨w.heap.size, 0, none⟩ = some (.int .u64 v) := by
      rw [World.cell?_of_block (hfr.block w.heap.size (by simp; omega) (by have := h.blk.lt; have := h.row.lt; simp; omega))]
      exact hc
    clear hc H
    go_wp2
    go_ret
    exact ⟨by simp, hm, (((Fr.refl _ _).alloc _).alloc _).trans hfr⟩
  · simp only [decide_eq_false hi] at H ⊢
    generalize s.old i = x at *
    clear hd hi hc
    go_enter Tryz.func84, Tryz.ntmps84
    go_wp2_with fail
    refine H.mono ?_
    rintro e w' ⟨rfl, hm, hfr⟩
    clear H
    go_wp2
    go_ret
    exact ⟨by simp, hm, (((Fr.refl _ _).alloc _).alloc _).trans hfr⟩
end Go.Proofs.YtgipddeldddbnaaGreat

namespace Go.Proofs.YtgipddeldddbnaaGreat
open Go Go.RowKit Go.Shelf

theorem store_fn (x v : Int) (a : Addr) (w : World) (h : w.cell? a = some (.int .u64 v)) : Calls Tryz.prog 79 #[.int .u64 x, .pointer (some a)] w fun e w' => e = .returned (.int .u64 v) ∧ w = w' := by
  go_enter Tryz.func79, Tryz.ntmps79
  go_wp2
  go_ret
  exact ⟨rfl, rfl⟩

theorem store_any {w : World} {p g cap : Nat} {s : St} (h : Mem w p g cap s) (i v : Int) :
    Calls Tryz.prog 72 #[.pointer (some ⟨p, 0, none⟩), .int .i64 i, .int .u64 v] w fun e w' => e = .returned (.tuple #[]) ∧ Mem w' p g cap (s.go 2 i fun _ => v) ∧ Fr [p, g] w w' := by
  have hc : (w.alloc (.cells #[.int .u64 v] 103)).cell? ⟨w.heap.size, 0, none⟩ = some (.int .u64 v) := (Blk.made w 103 #[.int .u64 v]).at_ 0
  have H := access_any (h.alloc (.cells #[.int .u64 v] 103)) 2 i 79 #[.pointer (some ⟨w.heap.size, 0, none⟩)] _ (enters_of Tryz.func79 (by kernel_rfl) rfl) (fun x => store_fn x v _ _ hc)
  generalize s.old i = x at *
  generalize decide (s.has i) = b at *
  go_enter Tryz.func72, Tryz.ntmps72
  go_wp2_with fail
  refine H.mono ?_
  rintro e w' ⟨rfl, hm, hfr⟩
  go_wp2
  go_end0
  exact ⟨rfl, hm, ((Fr.refl _ _).alloc _).trans hfr⟩
end Go.Proofs.YtgipddeldddbnaaGreat

namespace Go.Proofs.YtgipddeldddbnaaGreat
open Go Go.RowKit

theorem now_any {w : World} {p : Nat} {t d : Int} (h : Clk w p t d) :
    Calls Tryz.prog 74 #[.pointer (some ⟨p, 0, none⟩)] w fun e w' => e = .returned (.int .i64 t) ∧ w = w' := by
  have h0 : w.cell? ⟨p, 0, none⟩ = some (.int .i64 t) := Blk.at_ h 0
  go_enter Tryz.func74, Tryz.ntmps74
  go_wp2
  go_ret
  exact ⟨rfl, rfl⟩

end Go.Proofs.YtgipddeldddbnaaGreat
