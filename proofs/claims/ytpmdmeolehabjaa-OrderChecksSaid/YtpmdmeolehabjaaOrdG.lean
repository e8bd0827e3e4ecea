/-
  The reference's order: Apply. (The drawn regions written by wip/gen_ordg.py.)
-/
import Derived.Test.YtpmdmeolehabjaaOrdF
import Derived.Laws.AppendOwnNone
namespace Go.Proofs.Ytpmdmeolehabjaa
open Go Go.RowKit
set_option linter.unusedSimpArgs false
set_option linter.unusedVariables false

theorem info_rkey : (Try.prog.info? 68).map (fun i => (i.zero, i.size, i.bytes)) = some (some (.agg #[.int .i64 0, .int .i64 0, .int .i64 0]), 3, 24) := by kernel_rfl
/-- An append of a slice's rows, which may be nil. -/
theorem wp_appQ {w : World} {o : Oper} {a : Act} {K : Act → World → Prop} {Q : Exit → Act → World → Prop} {ts t : TypeId} {z : Value} {k b : Nat} (hinfo : (Try.prog.info? t).map (fun i => (i.zero, i.size, i.bytes)) = some (some z, k, b))
    (hz : z.cells.size = k) (hk : 0 < k) (hb1 : b ≤ 1000) (hu : Try.prog.underlying ts = some (.slice t)) (s x : Operand)
    (ho : o.op = .call { callee := .builtin .append, args := #[s, x], argTypes := #[ts, ts] })
    {base : Nat} {v : Value} {R : List (List Value)} (hs : a.eval s = v) (hown : OwnG w base t k v R) {ax : Option Addr} {m c : Nat} {q : List (List Value)} (hx : a.eval x = .slice ax m c) (hm : q.length = m) (hr : RowsK k q) (hc : ∀ ad, ax = some ad → ∀ j u, q.flatten[j]? = some u → w.cell? (ad.add j) = some u)
    (hn0 : ax = none → m = 0 ∧ c = 0) (hn : R.length + m ≤ 1000000) (hb : base ≤ w.heap.size)
    (h : ∀ v' w', OwnG w' base t k v' (R ++ q) → w.grownBy w' v.ownBlock → K (a.put o.dst v') w') :
    o.wp Try.prog a w K Q := by
  cases ax with
  | some ad => exact wp_appGr hinfo hz hk hb1 hu s x ho hs hown hx hm hr (hc ad rfl) hn hb (fun v' w' h1 h2 _ => h v' w' h1 h2)
  | none =>
    obtain ⟨rfl, rfl⟩ := hn0 rfl
    have hq : q = [] := List.eq_nil_of_length_eq_zero hm
    subst hq
    obtain ⟨i0, hi, hz0, hz1, hz2⟩ := info_partsG hinfo
    have hrun := run_append_owned_none (P := Try.prog) (w := w) base ts o.type t i0 k hu hi v R.length R.flatten hown.2
    have hK := h v w (by rw [List.append_nil]; exact hown) ⟨rfl, rfl, rfl, Nat.le_refl _, fun _ _ _ => rfl⟩
    unfold Oper.wp execOp
    simp only [ho, resolve, invoke, builtin, Sem.run_bind, Sem.run_pure, Result.andThen_ok, List.map_toArray, List.map_cons, List.map_nil, hs, hx, hrun]
    exact hK
theorem lit_own (w : World) (t : TypeId) (k : Nat) {B : Nat} (hB : B ≤ w.heap.size) : OwnG (w.alloc (.cells #[] t)) B t k (.slice (some ⟨w.heap.size, 0, none⟩) 0 0) [] := ⟨RowsK.nil k, World.ownsRow_made w #[] 0 hB (by unfold maxLen; omega) (by simp)⟩
theorem rowsK_keys (l : List KO) : RowsK 3 (l.map kcells) := fun r hr => by
  obtain ⟨k, _, rfl⟩ := List.mem_map.1 hr
  exact ⟨rfl, fun u hu => by simp only [List.mem_cons, List.not_mem_nil, or_false] at hu; rcases hu with rfl | rfl | rfl <;> rfl⟩
/-- What a row of the call's own, made behind w0, grows to changes nothing of w0. -/
theorem grown_below {w0 w w' : World} {v : Value} {base : Nat} {t : TypeId} {k : Nat} {R : List (List Value)} (h : OwnG w base t k v R) (hb : Below w0.heap.size w0 w) (hB : w0.heap.size ≤ base) (hg : w.grownBy w' v.ownBlock) : Below w0.heap.size w0 w' :=
  ⟨hg.os.trans hb.os, hg.tape.trans hb.tape, hg.output.trans hb.output, Nat.le_trans hb.size hg.size, fun b hb' => (hg.block b (Nat.lt_of_lt_of_le hb' hb.size) (fun e => by have := (h.lt b e.symm).1; omega)).trans (hb.block b hb')⟩
/-- The cells of a queue's keys. -/
theorem RT.cells {w : World} {B x : Nat} {g n cap : Nat} {k : Con} (h : RT w B x (.slice (some ⟨g, 0, none⟩) n cap) k) : ∀ q, q < n * 3 → w.cell? ⟨g, q, none⟩ = (k.ks.map kcells).flatten[q]? := by
  rcases h.own.2.2 with ⟨h1, _⟩ | ⟨g', cap', cur, e, hb, hg, hn, hm, hs, ht⟩
  · cases h1
  · simp only [Value.slice.injEq, Option.some.injEq, Addr.mk.injEq, and_true] at e
    obtain ⟨e1, e2, e3⟩ := e
    subst e1
    subst e2
    subst e3
    intro q hq
    have hg' : Blk w g 68 cur := hg
    rw [hg'.at_, ← ht, List.getElem?_take, if_pos hq, Array.getElem?_toList]
/-- The reference's queue has become that of another content. -/
def RChg (B x : Nat) (k' : Con) (w w' : World) : Prop := ∃ v', RT w' B x v' k' ∧ Fr [x] w w'
theorem RT.stay {w w' : World} {B x : Nat} {v : Value} {k : Con} (h : RT w B x v k) (hb : Below w.heap.size w w') : RChg B x k w w' := ⟨v, h.below hb, Fr.old hb⟩
/-- The keys have been replaced, and stored. -/
theorem RT.put {w0 w : World} {B x : Nat} {v v' : Value} {k : Con} {ks' : List KO} {base : Nat} (h : RT w0 B x v k) (hb : Below w0.heap.size w0 w) (hown : OwnG w base 68 3 v' (ks'.map kcells)) (hB : B ≤ base) :
    RChg B x ⟨ks', k.n⟩ w0 (w.setCell ⟨x, 0, none⟩ v') ∧ w.cell? ⟨x, 0, none⟩ = some v ∧ w.frozen? ⟨x, 0, none⟩ = false := by
  have hb0 := h.blk.below hb
  have hne : ∀ b, v'.ownBlock = some b → b ≠ x := fun b hb' => by
    obtain ⟨cur, hc⟩ := hown.ty b hb'
    exact hc.apart hb0 (by decide)
  refine ⟨⟨v', ⟨?_, (hown.mono hB).same (fun b hb' => Below.heap_setCell w ⟨x, 0, none⟩ v' b (hne b hb')), h.hx⟩, (Fr.old hb).setCell (.inl (by simp)) v'⟩, hb0.at_ 0, hb0.free 0⟩
  have := hb0.put 0 v'
  simpa using this
theorem RChg.more {B x : Nat} {ks : List KO} {n m : Nat} {w w' : World} (h : RChg B x ⟨ks, n⟩ w w') : RChg B x ⟨ks, m⟩ w (w'.setCell ⟨x, 1, none⟩ (.int .i64 m)) := by
  obtain ⟨v', h1, h2⟩ := h
  have hne : ∀ b, v'.ownBlock = some b → b ≠ x := fun b hb => by
    obtain ⟨cur, hc⟩ := h1.own.ty b hb
    exact hc.apart h1.blk (by decide)
  refine ⟨v', ⟨?_, h1.own.same (fun b hb => Below.heap_setCell w' ⟨x, 1, none⟩ _ b (hne b hb)), h1.hx⟩, h2.setCell (.inl (by simp)) _⟩
  have := h1.blk.put 1 (.int .i64 m)
  simpa using this
theorem RChg.low {B x : Nat} {k' : Con} {w w1 w' : World} (hb : Below w.heap.size w w1) (h : RChg B x k' w1 w') : RChg B x k' w w' := by
  obtain ⟨v', q1, q2⟩ := h
  exact ⟨v', q1, (Fr.old hb).trans q2⟩
set_option maxHeartbeats 4000000 in
theorem rapply_no1 {w : World} {B x : Nat} {v : Value} {k : Con} (h : RT w B x v k) (c : Cfg) (pa : Option Addr) (pn pc : Nat) {sa : Option Addr} {sn : Nat} (sc : Nat) (d : Ev) (hk : d.kd = 1) (ho : ¬ ((0 ≤ d.ot ∧ d.ot < (sn : Int)) ∧ (k.ks.length : Int) < c.he)) :
    Calls Try.prog 25 #[.pointer (some ⟨x, 0, none⟩), cv c pa pn pc sa sn sc, .agg (evV d)] w fun e w' => e = .returned (.bool false) ∧ RChg B x k w w' := by
  have hX := bx_made w c pa pn pc sa sn sc d
  have e0 := hX.e.at_ 0
  have e2 := hX.e.at_ 2
  have e3 := hX.e.at_ 3
  have e4 := hX.e.at_ 4
  have c5 := hX.c.at_ 5
  have c10 := hX.c.at_ 10
  have HX := Lib.hid hX
  have H := Lib.hid h
  obtain ⟨a, cap, hv, hcap, _⟩ := h.form
  have hn0 : a = none → cap = 0 := fun e => by
    rcases h.own.2.2 with ⟨h1, _⟩ | ⟨g', cap', cur, h1, _⟩
    · rw [hv] at h1
      simp only [Value.slice.injEq] at h1
      exact h1.2.2
    · rw [hv, e] at h1
      simp only [Value.slice.injEq] at h1
      exact absurd h1.1 (by simp)
  have HN0 := Lib.hid hn0
  have x0 := (h.below hX.b).blk.at_ 0
  rw [hv] at x0
  have x1 : ((w.alloc (.cells (cc c pa pn pc sa sn sc) 25)).alloc (.cells (evV d) 39)).cell? ⟨x, 1, none⟩ = some (.int .i64 k.n) := (h.below hX.b).blk.at_ 1
  have HV := Lib.hid hv
  clear h hX hv hn0
  have b1 : (d.kd == 1) = true := beq_iff_eq.2 hk
  have HK := Lib.hid hk
  clear hk
  by_cases h0 : d.ot < 0
  · have d0 : decide (d.ot < 0) = true := decide_eq_true h0
    have H0 := Lib.hid h0
    clear h0 ho
    go_enter Try.func25, Try.ntmps25
    go_wp2_with fail
    go_quiet (fail)
    go_wp2
    go_ret
    exact ⟨rfl, H.out.stay (HX.out.b.trans ((below_drewN _ _).mono HX.out.b.size))⟩
  have d0 : decide (d.ot < 0) = false := decide_eq_false h0
  by_cases h1 : (sn : Int) ≤ d.ot
  · have d1 : decide ((sn : Int) ≤ d.ot) = true := decide_eq_true h1
    have H0 := Lib.hid h0
    have H1 := Lib.hid h1
    clear h0 h1 ho
    go_enter Try.func25, Try.ntmps25
    go_wp2_with fail
    go_quiet (fail)
    go_wp2
    go_ret
    exact ⟨rfl, H.out.stay (HX.out.b.trans ((below_drewN _ _).mono HX.out.b.size))⟩
  have d1 : decide ((sn : Int) ≤ d.ot) = false := decide_eq_false h1
  have d2 : decide (c.he ≤ (k.ks.length : Int)) = true := decide_eq_true (by omega)
  have H0 := Lib.hid h0
  have H1 := Lib.hid h1
  clear h0 h1 ho
  go_enter Try.func25, Try.ntmps25
  go_wp2_with fail
  go_quiet (fail)
  go_wp2
  go_ret
  exact ⟨rfl, H.out.stay (HX.out.b.trans ((below_drewN _ _).mono HX.out.b.size))⟩
set_option maxHeartbeats 4000000 in
theorem rapply_yes1 {w : World} {B x : Nat} {v : Value} {k : Con} (h : RT w B x v k) (c : Cfg) (pa : Option Addr) (pn pc : Nat) {sa : Option Addr} {sn : Nat} (sc : Nat) (d : Ev) (hk : d.kd = 1) (hS : Tris w 0 sa sn c.su) (hB : B ≤ w.heap.size) (hm : k.ks.length ≤ 1000) (hn : k.n ≤ 100000) {i : Nat} (ho : d.ot = (i : Int)) (hi : i < sn) (hf : (k.ks.length : Int) < c.he) :
    Calls Try.prog 25 #[.pointer (some ⟨x, 0, none⟩), cv c pa pn pc sa sn sc, .agg (evV d)] w fun e w' => e = .returned (.bool true) ∧ RChg B x ⟨k.ks ++ [⟨(c.su.getD i z3).2.2, k.n, d.tk⟩], k.n + 1⟩ w w' := by
  have hX := bx_made w c pa pn pc sa sn sc d
  have e0 := hX.e.at_ 0
  have e2 := hX.e.at_ 2
  have e3 := hX.e.at_ 3
  have e4 := hX.e.at_ 4
  have c5 := hX.c.at_ 5
  have c10 := hX.c.at_ 10
  have HX := Lib.hid hX
  have H := Lib.hid h
  obtain ⟨a, cap, hv, hcap, _⟩ := h.form
  have hn0 : a = none → cap = 0 := fun e => by
    rcases h.own.2.2 with ⟨h1, _⟩ | ⟨g', cap', cur, h1, _⟩
    · rw [hv] at h1
      simp only [Value.slice.injEq] at h1
      exact h1.2.2
    · rw [hv, e] at h1
      simp only [Value.slice.injEq] at h1
      exact absurd h1.1 (by simp)
  have HN0 := Lib.hid hn0
  have x0 := (h.below hX.b).blk.at_ 0
  rw [hv] at x0
  have x1 : ((w.alloc (.cells (cc c pa pn pc sa sn sc) 25)).alloc (.cells (evV d) 39)).cell? ⟨x, 1, none⟩ = some (.int .i64 k.n) := (h.below hX.b).blk.at_ 1
  have HV := Lib.hid hv
  have hn00 : a = none → k.ks.length = 0 := fun e => by
    rcases h.own.2.2 with ⟨h1, h2⟩ | ⟨g', cap', cur, h1, _⟩
    · rw [List.length_map] at h2
      exact h2
    · rw [hv, e] at h1
      simp only [Value.slice.injEq] at h1
      exact absurd h1.1 (by simp)
  have HN00 := Lib.hid hn00
  rw [show (evV d)[3]? = some (.int .i64 (i : Int)) by rw [← ho]; rfl] at e3
  have HE := Lib.hid hX.e
  have HC := Lib.hid hX.c
  obtain ⟨y, rfl, hy, hc2⟩ := tri_at hS hi
  obtain ⟨dl, hdl⟩ : ∃ dl, (c.su.getD i z3).2.2 = dl := ⟨_, rfl⟩
  have HDL := Lib.hid hdl
  rw [hdl] at hc2
  rw [hdl]
  have HY := Lib.hid hy
  have HC2 := Lib.hid hc2
  have HBW := Lib.hid (Nat.le_trans hB hX.b.size)
  have HM := Lib.hid hm
  have HO := Lib.hid ho
  have ONE := Lib.hid (show RowsK 3 [[Value.int .i64 dl, .int .i64 k.n, .int .i64 d.tk]] from fun r hr => by simp only [List.mem_cons, List.not_mem_nil, or_false] at hr; subst hr; exact ⟨rfl, fun u hu => by simp only [List.mem_cons, List.not_mem_nil, or_false] at hu; rcases hu with rfl | rfl | rfl <;> rfl⟩)
  clear h hX hv hn0 hn00 hS hB hdl hc2
  have b1 : (d.kd == 1) = true := beq_iff_eq.2 hk
  have HK := Lib.hid hk
  have d0 : decide ((i : Int) < 0) = false := decide_eq_false (by omega)
  have d1 : decide ((sn : Int) ≤ (i : Int)) = false := decide_eq_false (by omega)
  have d2 : decide (c.he ≤ (k.ks.length : Int)) = false := decide_eq_false (by omega)
  have i0 : (0 : Int) ≤ (i : Int) := by omega
  have i1 : (i : Int) < (sn : Int) := by omega
  clear hk ho hf
  go_enter Try.func25, Try.ntmps25
  go_wp2_with fail
  go_quiet (fail)
  go_upto_region 5 with fail
  generalize (w.alloc (.cells (cc c pa pn pc (some y) sn sc) 25)).alloc (.cells (evV d) 39) = wX at *
  have HB0 := Lib.hid (show Below w.heap.size w (wX.drewN nq) from HX.out.b.trans ((below_drewN wX nq).mono HX.out.b.size))
  have hbq := below_drewN wX nq
  have HR := Lib.hid ((H.out.below HX.out.b).below hbq)
  have HB1 := Lib.hid (Nat.le_trans HBW.out hbq.size)
  have q0lt : w.heap.size < (wX.drewN nq).heap.size := HC.out.lt
  have q1lt : w.heap.size + 1 < (wX.drewN nq).heap.size := HE.out.lt
  have ylt : (y.add (i * 3)).block < (wX.drewN nq).heap.size := by rw [block_add]; have := HY.out; have := q0lt; omega
  have x0' : (wX.drewN nq).cell? ⟨x, 0, none⟩ = some (.slice a k.ks.length cap) := x0
  have x1' : (wX.drewN nq).cell? ⟨x, 1, none⟩ = some (.int .i64 k.n) := x1
  have e2' : (wX.drewN nq).cell? ⟨w.heap.size + 1, 2, none⟩ = some (.int .i64 d.tk) := e2
  have e3' : (wX.drewN nq).cell? ⟨w.heap.size + 1, 3, none⟩ = some (.int .i64 (i : Int)) := e3
  have c10' : (wX.drewN nq).cell? ⟨w.heap.size, 10, none⟩ = some (.slice (some y) sn sc) := c10
  have s2 : (wX.drewN nq).cell? ⟨(y.add (i * 3)).block, (y.add (i * 3)).off + 2, none⟩ = some (.int .i64 dl) := (HX.out.b.cell (p := ⟨(y.add (i * 3)).block, (y.add (i * 3)).off + 2, none⟩) (by show (y.add (i * 3)).block < _; rw [block_add]; exact HY.out)).trans HC2.out
  clear x0 x1 e0 e2 e3 e4 c5 c10 hbq
  generalize wX.drewN nq = w1 at *
  obtain ⟨x0, x1, e2, e3, c10⟩ : _ ∧ _ ∧ _ ∧ _ ∧ _ := ⟨x0', x1', e2', e3', c10'⟩
  clear x0' x1' e2' e3' c10'
  have xlt : x < w1.heap.size := HR.out.blk.lt
  have hS0 : Below w1.heap.size w1 w1.drew := below_drew (Below.refl _ _)
  have HKC := Lib.hid (show ∀ u : World, Below w1.heap.size w1 u → ∀ ad, a = some ad → ∀ j t, (k.ks.map kcells).flatten[j]? = some t → u.cell? (ad.add j) = some t from fun u hu ad e j t hj => by
    subst e
    have hr := HR.out
    rw [HV.out] at hr
    obtain ⟨g, cap', cur, e2, _⟩ := hr.own.blk (by intro e0; rw [e0] at hj; simp at hj)
    simp only [Value.slice.injEq, Option.some.injEq] at e2
    obtain ⟨e3, _⟩ := e2
    subst e3
    have hj2 : j < k.ks.length * 3 := by
      have := (List.getElem?_eq_some_iff.1 hj).1
      rwa [(rowsK_keys k.ks).len, List.length_map] at this
    have hc := (hr.cells j hj2).trans hj
    rw [Addr.add_lit, Nat.zero_add]
    exact (hu.cell (p := ⟨g, j, none⟩) (World.block_lt_of_cell? _ _ hc)).trans hc)
  refine wp_region_late (S := (fun u => Below w1.heap.size w1 u)) (z := 25) (by kernel_rfl) ?_
  change wpAnyZ _ _ _ _ 25 26 #[false, false, false, false, false, false, false, false, false, false, false, false, false, false, false, false, false, false, false, false, false, false, false, false, false, false] _ (World.drew _)
  refine wpAnyZ.take (i := 0) (v := .pointer (some ⟨x, 0, none⟩)) rfl (by kernel_rfl) (by kernel_rfl) (by kernel_rfl) (by kernel_rfl) (by kernel_rfl) (fun _ _ _ h => h) (Or.inl ⟨by rfl, fun u hu => by (go_simp)⟩) hS0 ?_
  simp only [List.getElem_toArray, List.getElem_cons_succ, List.getElem_cons_zero, Act.put, List.setIfInBounds_toArray, List.set_cons_zero, List.set_cons_succ]
  refine wpAnyZ.take (i := 2) (v := .pointer (some ⟨x, 0, none⟩)) rfl (by kernel_rfl) (by kernel_rfl) (by kernel_rfl) (by kernel_rfl) (by kernel_rfl) (fun _ _ _ h => h) (Or.inl ⟨by rfl, fun u hu => by (go_simp)⟩) hS0 ?_
  simp only [List.getElem_toArray, List.getElem_cons_succ, List.getElem_cons_zero, Act.put, List.setIfInBounds_toArray, List.set_cons_zero, List.set_cons_succ]
  refine wpAnyZ.take (i := 3) (v := .pointer (some ⟨x, 0, none⟩)) rfl (by kernel_rfl) (by kernel_rfl) (by kernel_rfl) (by kernel_rfl) (by kernel_rfl) (fun _ _ _ h => h) (Or.inl ⟨by rfl, fun u hu => by (go_simp)⟩) hS0 ?_
  simp only [List.getElem_toArray, List.getElem_cons_succ, List.getElem_cons_zero, Act.put, List.setIfInBounds_toArray, List.set_cons_zero, List.set_cons_succ]
  refine wpAnyZ.take (i := 4) (v := .pointer (some ⟨x, 0, none⟩)) rfl (by kernel_rfl) (by kernel_rfl) (by kernel_rfl) (by kernel_rfl) (by kernel_rfl) (fun _ _ _ h => h) (Or.inl ⟨by rfl, fun u hu => by (go_simp)⟩) hS0 ?_
  simp only [List.getElem_toArray, List.getElem_cons_succ, List.getElem_cons_zero, Act.put, List.setIfInBounds_toArray, List.set_cons_zero, List.set_cons_succ]
  refine wpAnyZ.take (i := 5) (v := .slice a k.ks.length cap) rfl (by kernel_rfl) (by kernel_rfl) (by kernel_rfl) (by kernel_rfl) (by kernel_rfl) (fun _ _ _ h => h) (Or.inl ⟨by rfl, fun u hu => by (have z0 := (hu.cell (p := ⟨x, 0, none⟩) xlt).trans x0; go_simp)⟩) hS0 ?_
  simp only [List.getElem_toArray, List.getElem_cons_succ, List.getElem_cons_zero, Act.put, List.setIfInBounds_toArray, List.set_cons_zero, List.set_cons_succ]
  refine wpAnyZ.take (i := 7) (v := .pointer (some ⟨w.heap.size, 10, none⟩)) rfl (by kernel_rfl) (by kernel_rfl) (by kernel_rfl) (by kernel_rfl) (by kernel_rfl) (fun _ _ _ h => h) (Or.inl ⟨by rfl, fun u hu => by (go_simp)⟩) hS0 ?_
  simp only [List.getElem_toArray, List.getElem_cons_succ, List.getElem_cons_zero, Act.put, List.setIfInBounds_toArray, List.set_cons_zero, List.set_cons_succ]
  refine wpAnyZ.take (i := 8) (v := .slice (some y) sn sc) rfl (by kernel_rfl) (by kernel_rfl) (by kernel_rfl) (by kernel_rfl) (by kernel_rfl) (fun _ _ _ h => h) (Or.inl ⟨by rfl, fun u hu => by (have z0 := (hu.cell (p := ⟨w.heap.size, 10, none⟩) q0lt).trans c10; go_simp)⟩) hS0 ?_
  simp only [List.getElem_toArray, List.getElem_cons_succ, List.getElem_cons_zero, Act.put, List.setIfInBounds_toArray, List.set_cons_zero, List.set_cons_succ]
  refine wpAnyZ.take (i := 9) (v := .pointer (some ⟨w.heap.size + 1, 3, none⟩)) rfl (by kernel_rfl) (by kernel_rfl) (by kernel_rfl) (by kernel_rfl) (by kernel_rfl) (fun _ _ _ h => h) (Or.inl ⟨by rfl, fun u hu => by (go_simp)⟩) hS0 ?_
  simp only [List.getElem_toArray, List.getElem_cons_succ, List.getElem_cons_zero, Act.put, List.setIfInBounds_toArray, List.set_cons_zero, List.set_cons_succ]
  refine wpAnyZ.take (i := 10) (v := .int .i64 (i : Int)) rfl (by kernel_rfl) (by kernel_rfl) (by kernel_rfl) (by kernel_rfl) (by kernel_rfl) (fun _ _ _ h => h) (Or.inl ⟨by rfl, fun u hu => by (have z0 := (hu.cell (p := ⟨w.heap.size + 1, 3, none⟩) q1lt).trans e3; go_simp)⟩) hS0 ?_
  simp only [List.getElem_toArray, List.getElem_cons_succ, List.getElem_cons_zero, Act.put, List.setIfInBounds_toArray, List.set_cons_zero, List.set_cons_succ]
  refine wpAnyZ.take (i := 11) (v := .pointer (some (y.add (i * 3)))) rfl (by kernel_rfl) (by kernel_rfl) (by kernel_rfl) (by kernel_rfl) (by kernel_rfl) (fun _ _ _ h => h) (Or.inl ⟨by rfl, fun u hu => by (go_simp)⟩) hS0 ?_
  simp only [List.getElem_toArray, List.getElem_cons_succ, List.getElem_cons_zero, Act.put, List.setIfInBounds_toArray, List.set_cons_zero, List.set_cons_succ]
  refine wpAnyZ.take (i := 12) (v := .pointer (some ⟨(y.add (i * 3)).block, (y.add (i * 3)).off + 2, none⟩)) rfl (by kernel_rfl) (by kernel_rfl) (by kernel_rfl) (by kernel_rfl) (by kernel_rfl) (fun _ _ _ h => h) (Or.inl ⟨by rfl, fun u hu => by (go_simp)⟩) hS0 ?_
  simp only [List.getElem_toArray, List.getElem_cons_succ, List.getElem_cons_zero, Act.put, List.setIfInBounds_toArray, List.set_cons_zero, List.set_cons_succ]
  refine wpAnyZ.take (i := 13) (v := .int .i64 dl) rfl (by kernel_rfl) (by kernel_rfl) (by kernel_rfl) (by kernel_rfl) (by kernel_rfl) (fun _ _ _ h => h) (Or.inl ⟨by rfl, fun u hu => by (have z0 := (hu.cell (p := ⟨(y.add (i * 3)).block, (y.add (i * 3)).off + 2, none⟩) ylt).trans s2; go_simp)⟩) hS0 ?_
  simp only [List.getElem_toArray, List.getElem_cons_succ, List.getElem_cons_zero, Act.put, List.setIfInBounds_toArray, List.set_cons_zero, List.set_cons_succ]
  refine wpAnyZ.take (i := 14) (v := .pointer (some ⟨x, 0, none⟩)) rfl (by kernel_rfl) (by kernel_rfl) (by kernel_rfl) (by kernel_rfl) (by kernel_rfl) (fun _ _ _ h => h) (Or.inl ⟨by rfl, fun u hu => by (go_simp)⟩) hS0 ?_
  simp only [List.getElem_toArray, List.getElem_cons_succ, List.getElem_cons_zero, Act.put, List.setIfInBounds_toArray, List.set_cons_zero, List.set_cons_succ]
  refine wpAnyZ.take (i := 15) (v := .pointer (some ⟨x, 0, none⟩)) rfl (by kernel_rfl) (by kernel_rfl) (by kernel_rfl) (by kernel_rfl) (by kernel_rfl) (fun _ _ _ h => h) (Or.inl ⟨by rfl, fun u hu => by (go_simp)⟩) hS0 ?_
  simp only [List.getElem_toArray, List.getElem_cons_succ, List.getElem_cons_zero, Act.put, List.setIfInBounds_toArray, List.set_cons_zero, List.set_cons_succ]
  refine wpAnyZ.take (i := 16) (v := .pointer (some ⟨x, 1, none⟩)) rfl (by kernel_rfl) (by kernel_rfl) (by kernel_rfl) (by kernel_rfl) (by kernel_rfl) (fun _ _ _ h => h) (Or.inl ⟨by rfl, fun u hu => by (go_simp)⟩) hS0 ?_
  simp only [List.getElem_toArray, List.getElem_cons_succ, List.getElem_cons_zero, Act.put, List.setIfInBounds_toArray, List.set_cons_zero, List.set_cons_succ]
  refine wpAnyZ.take (i := 17) (v := .int .i64 k.n) rfl (by kernel_rfl) (by kernel_rfl) (by kernel_rfl) (by kernel_rfl) (by kernel_rfl) (fun _ _ _ h => h) (Or.inl ⟨by rfl, fun u hu => by (have z0 := (hu.cell (p := ⟨x, 1, none⟩) xlt).trans x1; go_simp)⟩) hS0 ?_
  simp only [List.getElem_toArray, List.getElem_cons_succ, List.getElem_cons_zero, Act.put, List.setIfInBounds_toArray, List.set_cons_zero, List.set_cons_succ]
  refine wpAnyZ.take (i := 18) (v := .pointer (some ⟨w.heap.size + 1, 2, none⟩)) rfl (by kernel_rfl) (by kernel_rfl) (by kernel_rfl) (by kernel_rfl) (by kernel_rfl) (fun _ _ _ h => h) (Or.inl ⟨by rfl, fun u hu => by (go_simp)⟩) hS0 ?_
  simp only [List.getElem_toArray, List.getElem_cons_succ, List.getElem_cons_zero, Act.put, List.setIfInBounds_toArray, List.set_cons_zero, List.set_cons_succ]
  refine wpAnyZ.take (i := 19) (v := .int .i64 d.tk) rfl (by kernel_rfl) (by kernel_rfl) (by kernel_rfl) (by kernel_rfl) (by kernel_rfl) (fun _ _ _ h => h) (Or.inl ⟨by rfl, fun u hu => by (have z0 := (hu.cell (p := ⟨w.heap.size + 1, 2, none⟩) q1lt).trans e2; go_simp)⟩) hS0 ?_
  simp only [List.getElem_toArray, List.getElem_cons_succ, List.getElem_cons_zero, Act.put, List.setIfInBounds_toArray, List.set_cons_zero, List.set_cons_succ]
  refine wpAnyZ.take (i := 20) (v := .agg #[.int .i64 dl, .int .i64 k.n, .int .i64 d.tk]) rfl (by kernel_rfl) (by kernel_rfl) (by kernel_rfl) (by kernel_rfl) (by kernel_rfl) (fun _ _ _ h => h) (Or.inl ⟨by rfl, fun u hu => by (go_simp)⟩) hS0 ?_
  simp only [List.getElem_toArray, List.getElem_cons_succ, List.getElem_cons_zero, Act.put, List.setIfInBounds_toArray, List.set_cons_zero, List.set_cons_succ]
  refine wpAnyZ.ready (rs := [1, 21]) (by kernel_rfl) (by simp) ?_
  refine AllZ.cons rfl (fun K hK => ?_) (AllZ.cons rfl (fun K hK => ?_) AllZ.nil)
  · go_simp
    have hb1 := below_one w1 (.cells #[] 68)
    have hS1 : Below w1.heap.size w1 (w1.alloc (.cells #[] 68)).drew := below_drew hb1
    have lit1 : OwnG (w1.alloc (.cells #[] 68)).drew w1.heap.size 68 3 (.slice (some ⟨w1.heap.size, 0, none⟩) 0 0) [] := (lit_own w1 68 3 (Nat.le_refl _)).same (fun _ _ => rfl)
    refine hK.out _ _ (fun _ => hS1) (fun _ => ?_)
    clear hK K
    simp only [List.setIfInBounds_toArray, List.set_cons_zero, List.set_cons_succ]
    generalize (w1.alloc (.cells #[] 68)).drew = W1 at *
    refine wpAnyZ.ready (rs := [6, 21]) (by kernel_rfl) (by simp) ?_
    refine AllZ.cons rfl (fun K hK => ?_) (AllZ.cons rfl (fun K hK => ?_) AllZ.nil)
    · rw [if_pos (show Region.wanted _ _ = true by rfl)]
      refine wp_appQ info_rkey (by kernel_rfl) (by omega) (by omega) Try.underlying62 (.tmp 34) (.tmp 38) rfl rfl lit1 rfl (by rw [List.length_map]) (rowsK_keys k.ks) (fun ad e j u hj => HKC.out _ hS1 ad e j u hj) (fun e => ⟨HN00.out e, HN0.out e⟩) (by have := HM.out; simp; omega) hS1.size ?_
      intro v2 W2 hown2 hg2
      have hS2 := grown_below lit1 hS1 (Nat.le_refl _) hg2
      have hgg2 : W1.grownBy W2 (Value.slice (some ⟨w1.heap.size, 0, none⟩) 0 0).ownBlock := hg2
      obtain ⟨va2, vc2, hv2, _⟩ := hown2.form
      rw [show ([] ++ k.ks.map kcells : List (List Value)).length = k.ks.length by simp] at hv2
      subst hv2
      refine hK.out _ _ (fun _ => hS2) (fun _ => ?_)
      clear hK K
      simp only [List.setIfInBounds_toArray, List.set_cons_zero, List.set_cons_succ]
      refine wpAnyZ.ready (rs := [21]) (by kernel_rfl) (by simp) ?_
      refine AllZ.cons rfl (fun K hK => ?_) AllZ.nil
      go_simp
      have hb3 := below_one W2 (.cells #[.int .i64 dl, .int .i64 k.n, .int .i64 d.tk] 68)
      have hS3 : Below w1.heap.size w1 (W2.alloc (.cells #[.int .i64 dl, .int .i64 k.n, .int .i64 d.tk] 68)) := hS2.trans (hb3.mono hS2.size)
      have own3 : OwnG (W2.alloc (.cells #[.int .i64 dl, .int .i64 k.n, .int .i64 d.tk] 68)) w1.heap.size 68 3 (.slice va2 k.ks.length vc2) ([] ++ k.ks.map kcells) := hown2.below hb3
      have row3 : Blk (W2.alloc (.cells #[.int .i64 dl, .int .i64 k.n, .int .i64 d.tk] 68)) (W2.heap.size) 68 #[.int .i64 dl, .int .i64 k.n, .int .i64 d.tk] := Blk.made W2 _ _
      refine hK.out _ _ (fun _ => hS3) (fun _ => ?_)
      clear hK K
      simp only [List.setIfInBounds_toArray, List.set_cons_zero, List.set_cons_succ]
      generalize (W2.alloc (.cells #[.int .i64 dl, .int .i64 k.n, .int .i64 d.tk] 68)) = W3 at *
      refine wpAnyZ.ready (rs := [22]) (by kernel_rfl) (by simp) ?_
      refine AllZ.cons rfl (fun K hK => ?_) AllZ.nil
      rw [if_pos (show Region.wanted _ _ = true by rfl)]
      refine wp_appQ info_rkey (by kernel_rfl) (by omega) (by omega) Try.underlying62 (.tmp 39) (.tmp 54) rfl rfl own3 rfl (q := [[Value.int .i64 dl, .int .i64 k.n, .int .i64 d.tk]]) rfl ONE.out (fun ad e j u hj => by cases e; exact made_row1 row3 j u (by simpa using hj)) (fun e => by cases e) (by have := HM.out; simp; omega) hS3.size ?_
      intro v4 W4 hown4 hg4
      have hS4 := grown_below own3 hS3 (Nat.le_refl _) hg4
      obtain ⟨va4, vc4, hv4, _⟩ := hown4.form
      rw [show ([] ++ k.ks.map kcells ++ [[Value.int .i64 dl, .int .i64 k.n, .int .i64 d.tk]] : List (List Value)).length = k.ks.length + 1 by simp] at hv4
      subst hv4
      refine hK.out _ _ (fun _ => hS4) (fun _ => ?_)
      clear hK K
      simp only [List.setIfInBounds_toArray, List.set_cons_zero, List.set_cons_succ]
      refine wpAnyZ.ready (rs := [23]) (by kernel_rfl) (by simp) ?_
      refine AllZ.cons rfl (fun K hK => ?_) AllZ.nil
      go_simp
      refine hK.out _ _ (fun _ => hS4) (fun _ => ?_)
      clear hK K
      simp only [List.setIfInBounds_toArray, List.set_cons_zero, List.set_cons_succ]
      refine wpAnyZ.ready (rs := [24]) (by kernel_rfl) (by simp) ?_
      refine AllZ.cons rfl (fun K hK => ?_) AllZ.nil
      go_simp
      refine hK.out _ _ (fun _ => hS4) (fun _ => ?_)
      clear hK K
      simp only [List.setIfInBounds_toArray, List.set_cons_zero, List.set_cons_succ]
      obtain ⟨hch, k0, kf⟩ := HR.out.put (ks' := k.ks ++ [⟨dl, k.n, d.tk⟩]) hS4 (by rw [List.map_append]; simpa using hown4) HB1.out
      rw [HV.out] at k0
      have HCH := Lib.hid hch
      clear hch
      refine wpAnyZ.ready (rs := [25]) (by kernel_rfl) (by simp) ?_
      refine AllZ.cons rfl (fun K hK => ?_) AllZ.nil
      go_simp
      refine hK.out _ _ (fun h => absurd rfl h) (fun _ => ?_)
      clear hK K
      simp only [List.setIfInBounds_toArray, List.set_cons_zero, List.set_cons_succ]
      refine wpAnyZ.done (by kernel_rfl) ?_ _
      generalize W4.setCell ⟨x, 0, none⟩ _ = w5 at *
      obtain ⟨v5, q1, q2⟩ := HCH.out
      have c1 : w5.cell? ⟨x, 1, none⟩ = some (.int .i64 k.n) := q1.blk.at_ 1
      have f1 := q1.blk.free 1
      clear q1 q2 k0 kf x0 x1 e2 e3 c10 s2
      go_wp2
      go_ret
      have hfin := HCH.out.more (m := k.n + 1)
      exact ⟨rfl, hfin.low HB0.out⟩
    · go_simp
      have hb2 := below_one W1 (.cells #[.int .i64 dl, .int .i64 k.n, .int .i64 d.tk] 68)
      have hS2 : Below w1.heap.size w1 (W1.alloc (.cells #[.int .i64 dl, .int .i64 k.n, .int .i64 d.tk] 68)) := hS1.trans (hb2.mono hS1.size)
      have lit2 : OwnG (W1.alloc (.cells #[.int .i64 dl, .int .i64 k.n, .int .i64 d.tk] 68)) w1.heap.size 68 3 (.slice (some ⟨w1.heap.size, 0, none⟩) 0 0) [] := lit1.below hb2
      have row2 : Blk (W1.alloc (.cells #[.int .i64 dl, .int .i64 k.n, .int .i64 d.tk] 68)) (W1.heap.size) 68 #[.int .i64 dl, .int .i64 k.n, .int .i64 d.tk] := Blk.made W1 _ _
      have HLR := Lib.hid (show W1.heap.size ≠ w1.heap.size from fun e => by have := lit1.lt _ rfl; simp only at this; omega)
      refine hK.out _ _ (fun _ => hS2) (fun _ => ?_)
      clear hK K
      simp only [List.setIfInBounds_toArray, List.set_cons_zero, List.set_cons_succ]
      generalize (W1.alloc (.cells #[.int .i64 dl, .int .i64 k.n, .int .i64 d.tk] 68)) = W2 at *
      refine wpAnyZ.ready (rs := [6]) (by kernel_rfl) (by simp) ?_
      refine AllZ.cons rfl (fun K hK => ?_) AllZ.nil
      rw [if_pos (show Region.wanted _ _ = true by rfl)]
      refine wp_appQ info_rkey (by kernel_rfl) (by omega) (by omega) Try.underlying62 (.tmp 34) (.tmp 38) rfl rfl lit2 rfl (by rw [List.length_map]) (rowsK_keys k.ks) (fun ad e j u hj => HKC.out _ hS2 ad e j u hj) (fun e => ⟨HN00.out e, HN0.out e⟩) (by have := HM.out; simp; omega) hS2.size ?_
      intro v3 W3 hown3 hg3
      have hS3 := grown_below lit2 hS2 (Nat.le_refl _) hg3
      have hgg3 : W2.grownBy W3 (Value.slice (some ⟨w1.heap.size, 0, none⟩) 0 0).ownBlock := hg3
      have row3 : Blk W3 (W1.heap.size) 68 #[.int .i64 dl, .int .i64 k.n, .int .i64 d.tk] := row2.grown hgg3 (fun e => HLR.out (Option.some.inj e).symm)
      obtain ⟨va3, vc3, hv3, _⟩ := hown3.form
      rw [show ([] ++ k.ks.map kcells : List (List Value)).length = k.ks.length by simp] at hv3
      subst hv3
      refine hK.out _ _ (fun _ => hS3) (fun _ => ?_)
      clear hK K
      simp only [List.setIfInBounds_toArray, List.set_cons_zero, List.set_cons_succ]
      refine wpAnyZ.ready (rs := [22]) (by kernel_rfl) (by simp) ?_
      refine AllZ.cons rfl (fun K hK => ?_) AllZ.nil
      rw [if_pos (show Region.wanted _ _ = true by rfl)]
      refine wp_appQ info_rkey (by kernel_rfl) (by omega) (by omega) Try.underlying62 (.tmp 39) (.tmp 54) rfl rfl hown3 rfl (q := [[Value.int .i64 dl, .int .i64 k.n, .int .i64 d.tk]]) rfl ONE.out (fun ad e j u hj => by cases e; exact made_row1 row3 j u (by simpa using hj)) (fun e => by cases e) (by have := HM.out; simp; omega) hS3.size ?_
      intro v4 W4 hown4 hg4
      have hS4 := grown_below hown3 hS3 (Nat.le_refl _) hg4
      obtain ⟨va4, vc4, hv4, _⟩ := hown4.form
      rw [show ([] ++ k.ks.map kcells ++ [[Value.int .i64 dl, .int .i64 k.n, .int .i64 d.tk]] : List (List Value)).length = k.ks.length + 1 by simp] at hv4
      subst hv4
      refine hK.out _ _ (fun _ => hS4) (fun _ => ?_)
      clear hK K
      simp only [List.setIfInBounds_toArray, List.set_cons_zero, List.set_cons_succ]
      refine wpAnyZ.ready (rs := [23]) (by kernel_rfl) (by simp) ?_
      refine AllZ.cons rfl (fun K hK => ?_) AllZ.nil
      go_simp
      refine hK.out _ _ (fun _ => hS4) (fun _ => ?_)
      clear hK K
      simp only [List.setIfInBounds_toArray, List.set_cons_zero, List.set_cons_succ]
      refine wpAnyZ.ready (rs := [24]) (by kernel_rfl) (by simp) ?_
      refine AllZ.cons rfl (fun K hK => ?_) AllZ.nil
      go_simp
      refine hK.out _ _ (fun _ => hS4) (fun _ => ?_)
      clear hK K
      simp only [List.setIfInBounds_toArray, List.set_cons_zero, List.set_cons_succ]
      obtain ⟨hch, k0, kf⟩ := HR.out.put (ks' := k.ks ++ [⟨dl, k.n, d.tk⟩]) hS4 (by rw [List.map_append]; simpa using hown4) HB1.out
      rw [HV.out] at k0
      have HCH := Lib.hid hch
      clear hch
      refine wpAnyZ.ready (rs := [25]) (by kernel_rfl) (by simp) ?_
      refine AllZ.cons rfl (fun K hK => ?_) AllZ.nil
      go_simp
      refine hK.out _ _ (fun h => absurd rfl h) (fun _ => ?_)
      clear hK K
      simp only [List.setIfInBounds_toArray, List.set_cons_zero, List.set_cons_succ]
      refine wpAnyZ.done (by kernel_rfl) ?_ _
      generalize W4.setCell ⟨x, 0, none⟩ _ = w5 at *
      obtain ⟨v5, q1, q2⟩ := HCH.out
      have c1 : w5.cell? ⟨x, 1, none⟩ = some (.int .i64 k.n) := q1.blk.at_ 1
      have f1 := q1.blk.free 1
      clear q1 q2 k0 kf x0 x1 e2 e3 c10 s2
      go_wp2
      go_ret
      have hfin := HCH.out.more (m := k.n + 1)
      exact ⟨rfl, hfin.low HB0.out⟩
  · go_simp
    have hb1 := below_one w1 (.cells #[.int .i64 dl, .int .i64 k.n, .int .i64 d.tk] 68)
    have hS1 : Below w1.heap.size w1 (w1.alloc (.cells #[.int .i64 dl, .int .i64 k.n, .int .i64 d.tk] 68)).drew := below_drew hb1
    have row1 : Blk (w1.alloc (.cells #[.int .i64 dl, .int .i64 k.n, .int .i64 d.tk] 68)).drew (w1.heap.size) 68 #[.int .i64 dl, .int .i64 k.n, .int .i64 d.tk] := Blk.made w1 _ _
    refine hK.out _ _ (fun _ => hS1) (fun _ => ?_)
    clear hK K
    simp only [List.setIfInBounds_toArray, List.set_cons_zero, List.set_cons_succ]
    generalize (w1.alloc (.cells #[.int .i64 dl, .int .i64 k.n, .int .i64 d.tk] 68)).drew = W1 at *
    refine wpAnyZ.ready (rs := [1]) (by kernel_rfl) (by simp) ?_
    refine AllZ.cons rfl (fun K hK => ?_) AllZ.nil
    go_simp
    have hb2 := below_one W1 (.cells #[] 68)
    have hS2 : Below w1.heap.size w1 (W1.alloc (.cells #[] 68)) := hS1.trans (hb2.mono hS1.size)
    have row2 : Blk (W1.alloc (.cells #[] 68)) (w1.heap.size) 68 #[.int .i64 dl, .int .i64 k.n, .int .i64 d.tk] := row1.below hb2
    have lit2 : OwnG (W1.alloc (.cells #[] 68)) w1.heap.size 68 3 (.slice (some ⟨W1.heap.size, 0, none⟩) 0 0) [] := lit_own W1 68 3 hS1.size
    have HLR := Lib.hid (show w1.heap.size ≠ W1.heap.size from Nat.ne_of_lt row1.lt)
    refine hK.out _ _ (fun _ => hS2) (fun _ => ?_)
    clear hK K
    simp only [List.setIfInBounds_toArray, List.set_cons_zero, List.set_cons_succ]
    generalize (W1.alloc (.cells #[] 68)) = W2 at *
    refine wpAnyZ.ready (rs := [6]) (by kernel_rfl) (by simp) ?_
    refine AllZ.cons rfl (fun K hK => ?_) AllZ.nil
    rw [if_pos (show Region.wanted _ _ = true by rfl)]
    refine wp_appQ info_rkey (by kernel_rfl) (by omega) (by omega) Try.underlying62 (.tmp 34) (.tmp 38) rfl rfl lit2 rfl (by rw [List.length_map]) (rowsK_keys k.ks) (fun ad e j u hj => HKC.out _ hS2 ad e j u hj) (fun e => ⟨HN00.out e, HN0.out e⟩) (by have := HM.out; simp; omega) hS2.size ?_
    intro v3 W3 hown3 hg3
    have hS3 := grown_below lit2 hS2 (Nat.le_refl _) hg3
    have hgg3 : W2.grownBy W3 (Value.slice (some ⟨W1.heap.size, 0, none⟩) 0 0).ownBlock := hg3
    have row3 : Blk W3 (w1.heap.size) 68 #[.int .i64 dl, .int .i64 k.n, .int .i64 d.tk] := row2.grown hgg3 (fun e => HLR.out (Option.some.inj e).symm)
    obtain ⟨va3, vc3, hv3, _⟩ := hown3.form
    rw [show ([] ++ k.ks.map kcells : List (List Value)).length = k.ks.length by simp] at hv3
    subst hv3
    refine hK.out _ _ (fun _ => hS3) (fun _ => ?_)
    clear hK K
    simp only [List.setIfInBounds_toArray, List.set_cons_zero, List.set_cons_succ]
    refine wpAnyZ.ready (rs := [22]) (by kernel_rfl) (by simp) ?_
    refine AllZ.cons rfl (fun K hK => ?_) AllZ.nil
    rw [if_pos (show Region.wanted _ _ = true by rfl)]
    refine wp_appQ info_rkey (by kernel_rfl) (by omega) (by omega) Try.underlying62 (.tmp 39) (.tmp 54) rfl rfl hown3 rfl (q := [[Value.int .i64 dl, .int .i64 k.n, .int .i64 d.tk]]) rfl ONE.out (fun ad e j u hj => by cases e; exact made_row1 row3 j u (by simpa using hj)) (fun e => by cases e) (by have := HM.out; simp; omega) hS3.size ?_
    intro v4 W4 hown4 hg4
    have hS4 := grown_below hown3 hS3 (Nat.le_refl _) hg4
    obtain ⟨va4, vc4, hv4, _⟩ := hown4.form
    rw [show ([] ++ k.ks.map kcells ++ [[Value.int .i64 dl, .int .i64 k.n, .int .i64 d.tk]] : List (List Value)).length = k.ks.length + 1 by simp] at hv4
    subst hv4
    refine hK.out _ _ (fun _ => hS4) (fun _ => ?_)
    clear hK K
    simp only [List.setIfInBounds_toArray, List.set_cons_zero, List.set_cons_succ]
    refine wpAnyZ.ready (rs := [23]) (by kernel_rfl) (by simp) ?_
    refine AllZ.cons rfl (fun K hK => ?_) AllZ.nil
    go_simp
    refine hK.out _ _ (fun _ => hS4) (fun _ => ?_)
    clear hK K
    simp only [List.setIfInBounds_toArray, List.set_cons_zero, List.set_cons_succ]
    refine wpAnyZ.ready (rs := [24]) (by kernel_rfl) (by simp) ?_
    refine AllZ.cons rfl (fun K hK => ?_) AllZ.nil
    go_simp
    refine hK.out _ _ (fun _ => hS4) (fun _ => ?_)
    clear hK K
    simp only [List.setIfInBounds_toArray, List.set_cons_zero, List.set_cons_succ]
    obtain ⟨hch, k0, kf⟩ := HR.out.put (ks' := k.ks ++ [⟨dl, k.n, d.tk⟩]) hS4 (by rw [List.map_append]; simpa using hown4) HB1.out
    rw [HV.out] at k0
    have HCH := Lib.hid hch
    clear hch
    refine wpAnyZ.ready (rs := [25]) (by kernel_rfl) (by simp) ?_
    refine AllZ.cons rfl (fun K hK => ?_) AllZ.nil
    go_simp
    refine hK.out _ _ (fun h => absurd rfl h) (fun _ => ?_)
    clear hK K
    simp only [List.setIfInBounds_toArray, List.set_cons_zero, List.set_cons_succ]
    refine wpAnyZ.done (by kernel_rfl) ?_ _
    generalize W4.setCell ⟨x, 0, none⟩ _ = w5 at *
    obtain ⟨v5, q1, q2⟩ := HCH.out
    have c1 : w5.cell? ⟨x, 1, none⟩ = some (.int .i64 k.n) := q1.blk.at_ 1
    have f1 := q1.blk.free 1
    clear q1 q2 k0 kf x0 x1 e2 e3 c10 s2
    go_wp2
    go_ret
    have hfin := HCH.out.more (m := k.n + 1)
    exact ⟨rfl, hfin.low HB0.out⟩
set_option maxHeartbeats 4000000 in
theorem rapply_none13 {w : World} {B x : Nat} {v : Value} {k : Con} (h : RT w B x v k) (c : Cfg) (pa : Option Addr) (pn pc : Nat) {sa : Option Addr} {sn : Nat} (sc : Nat) (d : Ev) (hk : d.kd = 13) (hl : k.ks.length = 0) :
    Calls Try.prog 25 #[.pointer (some ⟨x, 0, none⟩), cv c pa pn pc sa sn sc, .agg (evV d)] w fun e w' => e = .returned (.bool false) ∧ RChg B x k w w' := by
  have hX := bx_made w c pa pn pc sa sn sc d
  have e0 := hX.e.at_ 0
  have e2 := hX.e.at_ 2
  have HX := Lib.hid hX
  have H := Lib.hid h
  have b1 : (d.kd == 1) = false := by rw [hk]; rfl
  have b13 : (d.kd == 13) = true := by rw [hk]; rfl
  have HK := Lib.hid hk
  clear hk
  have x0 := (h.below hX.b).blk.at_ 0
  obtain ⟨a, cap, hv, hcap, _⟩ := h.form
  rw [hv, hl] at x0
  have HV := Lib.hid hv
  clear h hX hv
  go_enter Try.func25, Try.ntmps25
  go_wp2
  go_ret
  exact ⟨rfl, H.out.stay HX.out.b⟩
set_option maxHeartbeats 4000000 in
theorem rapply_other13 {w : World} {B x : Nat} {v : Value} {k : Con} (h : RT w B x v k) (c : Cfg) (pa : Option Addr) (pn pc : Nat) {sa : Option Addr} {sn : Nat} (sc : Nat) (d : Ev) (hk : d.kd = 13) (hl : 0 < k.ks.length) (hm : k.ks.length ≤ 1000) (ht : (k.ks.getD (lstO k.ks) zk).t ≠ d.tk) :
    Calls Try.prog 25 #[.pointer (some ⟨x, 0, none⟩), cv c pa pn pc sa sn sc, .agg (evV d)] w fun e w' => e = .returned (.bool false) ∧ RChg B x k w w' := by
  have hX := bx_made w c pa pn pc sa sn sc d
  have e0 := hX.e.at_ 0
  have e2 := hX.e.at_ 2
  have HX := Lib.hid hX
  have H := Lib.hid h
  have b1 : (d.kd == 1) = false := by rw [hk]; rfl
  have b13 : (d.kd == 13) = true := by rw [hk]; rfl
  have HK := Lib.hid hk
  clear hk
  obtain ⟨a, cap, hv, hcap, hcell⟩ := h.form
  have hlt := lstO_lt hl
  have hls := Lib.hid (rlst_any (h.below hX.b) hm hl)
  obtain ⟨J, hJ⟩ : ∃ J, lstO k.ks = J := ⟨_, rfl⟩
  have HJ := Lib.hid hJ
  rw [hJ] at hls hlt ht
  obtain ⟨g, rfl, c0, c1, c2⟩ := hcell J hlt
  obtain ⟨U, hU⟩ : ∃ U, k.ks.getD J zk = U := ⟨_, rfl⟩
  rw [hU] at c2 ht
  obtain ⟨n, hN⟩ : ∃ n, k.ks.length = n := ⟨_, rfl⟩
  have HN := Lib.hid hN
  have HV := Lib.hid hv
  rw [hN] at hlt hcap hl hm
  have x0 := (h.below hX.b).blk.at_ 0
  rw [hv, hN] at x0
  have hne : ((n : Int) == 0) = false := beq_eq_false_iff_ne.2 (by omega)
  have j0 : (0 : Int) ≤ (J : Int) := by omega
  have j1 : (J : Int) < (n : Int) := by omega
  have hgw : g < w.heap.size := World.block_lt_of_cell? _ _ c2
  have HC2 := Lib.hid c2
  clear h hX hv hcell c0 c1 c2 hJ hU hN
  have hne2 : (U.t != d.tk) = true := bne_iff_ne.2 ht
  have HT := Lib.hid ht
  clear ht
  go_enter Try.func25, Try.ntmps25
  go_wp2_with (with_reducible refine hls.out.mono ?_)
  rintro e w2 ⟨rfl, hb⟩
  have hb' := HX.out.b.trans (hb.mono HX.out.b.size)
  have HB2 := Lib.hid hb'
  have x0' : w2.cell? ⟨x, 0, none⟩ = some (.slice (some ⟨g, 0, none⟩) n cap) := by
    have := (H.out.below hb').blk.at_ 0
    rw [HV.out, HN.out] at this
    exact this
  have e2' : w2.cell? ⟨w.heap.size + 1, 2, none⟩ = some (.int .i64 d.tk) := (HX.out.e.below hb).at_ 2
  have g0 : w2.cell? ⟨g, J * 3 + 2, none⟩ = some (.int .i64 U.t) := (hb'.cell (p := ⟨g, J * 3 + 2, none⟩) hgw).trans HC2.out
  clear hls x0 e0 e2 hb hb'
  go_wp2_with fail
  go_quiet (fail)
  go_wp2
  go_ret
  exact ⟨rfl, H.out.stay (HB2.out.trans ((below_drewN _ _).mono HB2.out.size))⟩
set_option maxHeartbeats 4000000 in
theorem rapply_yes13 {w : World} {B x : Nat} {v : Value} {k : Con} (h : RT w B x v k) (c : Cfg) (pa : Option Addr) (pn pc : Nat) {sa : Option Addr} {sn : Nat} (sc : Nat) (d : Ev) (hk : d.kd = 13) (hB : B ≤ w.heap.size) (hl : 0 < k.ks.length) (hm : k.ks.length ≤ 1000) (ht : (k.ks.getD (lstO k.ks) zk).t = d.tk) :
    Calls Try.prog 25 #[.pointer (some ⟨x, 0, none⟩), cv c pa pn pc sa sn sc, .agg (evV d)] w fun e w' => e = .returned (.bool true) ∧ RChg B x ⟨k.ks.eraseIdx (lstO k.ks), k.n⟩ w w' := by
  have hX := bx_made w c pa pn pc sa sn sc d
  have e0 := hX.e.at_ 0
  have e2 := hX.e.at_ 2
  have HX := Lib.hid hX
  have H := Lib.hid h
  have b1 : (d.kd == 1) = false := by rw [hk]; rfl
  have b13 : (d.kd == 13) = true := by rw [hk]; rfl
  have HK := Lib.hid hk
  clear hk
  obtain ⟨a, cap, hv, hcap, hcell⟩ := h.form
  have hlt := lstO_lt hl
  have hls := Lib.hid (rlst_any (h.below hX.b) hm hl)
  obtain ⟨J, hJ⟩ : ∃ J, lstO k.ks = J := ⟨_, rfl⟩
  have HJ := Lib.hid hJ
  rw [hJ] at hls hlt ht
  obtain ⟨g, rfl, c0, c1, c2⟩ := hcell J hlt
  obtain ⟨U, hU⟩ : ∃ U, k.ks.getD J zk = U := ⟨_, rfl⟩
  rw [hU] at c2 ht
  obtain ⟨n, hN⟩ : ∃ n, k.ks.length = n := ⟨_, rfl⟩
  have HN := Lib.hid hN
  have HV := Lib.hid hv
  rw [hN] at hlt hcap hl hm
  have x0 := (h.below hX.b).blk.at_ 0
  rw [hv, hN] at x0
  have hne : ((n : Int) == 0) = false := beq_eq_false_iff_ne.2 (by omega)
  have j0 : (0 : Int) ≤ (J : Int) := by omega
  have j1 : (J : Int) < (n : Int) := by omega
  have hgw : g < w.heap.size := World.block_lt_of_cell? _ _ c2
  have HC2 := Lib.hid c2
  clear h hX hv hcell c0 c1 c2 hJ hU hN
  have hne2 : (U.t != d.tk) = false := by rw [ht]; exact bne_self_eq_false _
  have HT := Lib.hid ht
  have HBW := Lib.hid hB
  clear ht hB
  go_enter Try.func25, Try.ntmps25
  go_wp2_with (with_reducible refine hls.out.mono ?_)
  rintro e w2 ⟨rfl, hb⟩
  have hb' := HX.out.b.trans (hb.mono HX.out.b.size)
  have HB2 := Lib.hid hb'
  have x0' : w2.cell? ⟨x, 0, none⟩ = some (.slice (some ⟨g, 0, none⟩) n cap) := by
    have := (H.out.below hb').blk.at_ 0
    rw [HV.out, HN.out] at this
    exact this
  have e2' : w2.cell? ⟨w.heap.size + 1, 2, none⟩ = some (.int .i64 d.tk) := (HX.out.e.below hb).at_ 2
  have g0 : w2.cell? ⟨g, J * 3 + 2, none⟩ = some (.int .i64 U.t) := (hb'.cell (p := ⟨g, J * 3 + 2, none⟩) hgw).trans HC2.out
  clear hls x0 e0 e2 hb hb'
  go_wp2_with fail
  go_quiet (fail)
  go_upto_region 13 with fail
  have HB0 := Lib.hid (show Below w.heap.size w (w2.drewN nq) from HB2.out.trans ((below_drewN w2 nq).mono HB2.out.size))
  have HR := Lib.hid (H.out.below HB0.out)
  rw [HV.out, HN.out] at HR
  have HB1 := Lib.hid (Nat.le_trans HBW.out HB0.out.size)
  have x0 : (w2.drewN nq).cell? ⟨x, 0, none⟩ = some (.slice (some ⟨g, 0, none⟩) n cap) := x0'
  have g0' : (w2.drewN nq).cell? ⟨g, J * 3 + 2, none⟩ = some (.int .i64 U.t) := g0
  clear x0' e2' g0
  generalize w2.drewN nq = w1 at *
  obtain ⟨g0, _⟩ : _ ∧ True := ⟨g0', trivial⟩
  clear g0'
  have xlt : x < w1.heap.size := HR.out.blk.lt
  have hS0 : Below w1.heap.size w1 w1.drew := below_drew (Below.refl _ _)
  have hgl : g < w1.heap.size := World.block_lt_of_cell? _ _ g0
  obtain ⟨J1, hJ1n⟩ : ∃ J1 : Nat, J + 1 = J1 := ⟨_, rfl⟩
  have hJ1 : (J : Int) + 1 = (J1 : Int) := by omega
  have hic : J ≤ cap := by omega
  have hjc : J1 ≤ cap := by omega
  have hjn : J1 ≤ n := by omega
  have hJm : J ≤ 1000 := by omega
  have HCE := Lib.hid (show ∀ u : World, Below w1.heap.size w1 u → ∀ q, q < n * 3 → u.cell? ⟨g, q, none⟩ = (k.ks.map kcells).flatten[q]? from fun u hu q hq => (hu.cell (p := ⟨g, q, none⟩) hgl).trans (HR.out.cells q hq))
  have hfl : (k.ks.map kcells).flatten.length = n * 3 := by rw [(rowsK_keys k.ks).len, List.length_map, HN.out]
  obtain ⟨A, hA, hsrc⟩ : ∃ A : Addr, (if cap = J1 then some (⟨g, 0, none⟩ : Addr) else some ⟨g, J1 * 3, none⟩) = some A ∧ Hid (∀ u : World, Below w1.heap.size w1 u → ∀ j t, ((k.ks.drop J1).map kcells).flatten[j]? = some t → u.cell? (A.add j) = some t) := by
    have hdl : ((k.ks.drop J1).map kcells).flatten.length = (n - J1) * 3 := by rw [(rowsK_keys _).len, List.length_map, List.length_drop, HN.out]
    by_cases hq : cap = J1
    · refine ⟨⟨g, 0, none⟩, by simp [hq], fun u hu j t hj => ?_⟩
      have := (List.getElem?_eq_some_iff.1 hj).1
      rw [hdl] at this
      omega
    · refine ⟨⟨g, J1 * 3, none⟩, by simp [hq], fun u hu j t hj => ?_⟩
      have hj2 := (List.getElem?_eq_some_iff.1 hj).1
      rw [hdl] at hj2
      rw [Addr.add_lit, HCE.out u hu _ (by rw [Nat.sub_mul] at hj2; omega), ← hj]
      have e : (k.ks.map kcells).flatten = ((k.ks.take J1).map kcells).flatten ++ ((k.ks.drop J1).map kcells).flatten := by rw [← List.flatten_append, ← List.map_append, List.take_append_drop]
      have hl : ((k.ks.take J1).map kcells).flatten.length = J1 * 3 := by rw [(rowsK_keys _).len, List.length_map, List.length_take, HN.out, Nat.min_eq_left hjn]
      rw [e, List.getElem?_append_right (by omega), hl, Nat.add_sub_cancel_left]
  have HTK := Lib.hid (show ∀ u : World, Below w1.heap.size w1 u → ∀ ad, (some (⟨g, 0, none⟩ : Addr)) = some ad → ∀ j t, ((k.ks.take J).map kcells).flatten[j]? = some t → u.cell? (ad.add j) = some t from fun u hu ad e j t hj => by
    cases e
    have hl : ((k.ks.take J).map kcells).flatten.length = J * 3 := by rw [(rowsK_keys _).len, List.length_map, List.length_take, HN.out, Nat.min_eq_left (by omega)]
    have hj2 := (List.getElem?_eq_some_iff.1 hj).1
    rw [hl] at hj2
    rw [Addr.add_lit, Nat.zero_add, HCE.out u hu _ (by omega), ← hj]
    have e : (k.ks.map kcells).flatten = ((k.ks.take J).map kcells).flatten ++ ((k.ks.drop J).map kcells).flatten := by rw [← List.flatten_append, ← List.map_append, List.take_append_drop]
    rw [e, List.getElem?_append_left (by omega)])
  have HTL := Lib.hid (show (k.ks.take J).length = J ∧ (k.ks.drop J1).length = n - J1 from ⟨by rw [List.length_take, HN.out, Nat.min_eq_left (by omega)], by rw [List.length_drop, HN.out]⟩)
  have HER := Lib.hid (show k.ks.take J ++ k.ks.drop J1 = k.ks.eraseIdx J by rw [← hJ1n, List.eraseIdx_eq_take_drop_succ])
  clear hfl hgl
  refine wp_region_late (S := (fun u => Below w1.heap.size w1 u)) (z := 19) (by kernel_rfl) ?_
  change wpAnyZ _ _ _ _ 19 20 #[false, false, false, false, false, false, false, false, false, false, false, false, false, false, false, false, false, false, false, false] _ (World.drew _)
  refine wpAnyZ.take (i := 0) (v := .pointer (some ⟨x, 0, none⟩)) rfl (by kernel_rfl) (by kernel_rfl) (by kernel_rfl) (by kernel_rfl) (by kernel_rfl) (fun _ _ _ h => h) (Or.inl ⟨by rfl, fun u hu => by (go_simp)⟩) hS0 ?_
  simp only [List.getElem_toArray, List.getElem_cons_succ, List.getElem_cons_zero, Act.put, List.setIfInBounds_toArray, List.set_cons_zero, List.set_cons_succ]
  refine wpAnyZ.take (i := 2) (v := .pointer (some ⟨x, 0, none⟩)) rfl (by kernel_rfl) (by kernel_rfl) (by kernel_rfl) (by kernel_rfl) (by kernel_rfl) (fun _ _ _ h => h) (Or.inl ⟨by rfl, fun u hu => by (go_simp)⟩) hS0 ?_
  simp only [List.getElem_toArray, List.getElem_cons_succ, List.getElem_cons_zero, Act.put, List.setIfInBounds_toArray, List.set_cons_zero, List.set_cons_succ]
  refine wpAnyZ.take (i := 3) (v := .pointer (some ⟨x, 0, none⟩)) rfl (by kernel_rfl) (by kernel_rfl) (by kernel_rfl) (by kernel_rfl) (by kernel_rfl) (fun _ _ _ h => h) (Or.inl ⟨by rfl, fun u hu => by (go_simp)⟩) hS0 ?_
  simp only [List.getElem_toArray, List.getElem_cons_succ, List.getElem_cons_zero, Act.put, List.setIfInBounds_toArray, List.set_cons_zero, List.set_cons_succ]
  refine wpAnyZ.take (i := 4) (v := .pointer (some ⟨x, 0, none⟩)) rfl (by kernel_rfl) (by kernel_rfl) (by kernel_rfl) (by kernel_rfl) (by kernel_rfl) (fun _ _ _ h => h) (Or.inl ⟨by rfl, fun u hu => by (go_simp)⟩) hS0 ?_
  simp only [List.getElem_toArray, List.getElem_cons_succ, List.getElem_cons_zero, Act.put, List.setIfInBounds_toArray, List.set_cons_zero, List.set_cons_succ]
  refine wpAnyZ.take (i := 5) (v := .slice (some ⟨g, 0, none⟩) n cap) rfl (by kernel_rfl) (by kernel_rfl) (by kernel_rfl) (by kernel_rfl) (by kernel_rfl) (fun _ _ _ h => h) (Or.inl ⟨by rfl, fun u hu => by (have z0 := (hu.cell (p := ⟨x, 0, none⟩) xlt).trans x0; go_simp)⟩) hS0 ?_
  simp only [List.getElem_toArray, List.getElem_cons_succ, List.getElem_cons_zero, Act.put, List.setIfInBounds_toArray, List.set_cons_zero, List.set_cons_succ]
  refine wpAnyZ.take (i := 6) (v := .int .i64 (J : Int)) rfl (by kernel_rfl) (by kernel_rfl) (by kernel_rfl) (by kernel_rfl) (by kernel_rfl) (fun _ _ _ h => h) (Or.inl ⟨by rfl, fun u hu => by (go_simp)⟩) hS0 ?_
  simp only [List.getElem_toArray, List.getElem_cons_succ, List.getElem_cons_zero, Act.put, List.setIfInBounds_toArray, List.set_cons_zero, List.set_cons_succ]
  refine wpAnyZ.take (i := 7) (v := .slice (some ⟨g, 0, none⟩) J cap) rfl (by kernel_rfl) (by kernel_rfl) (by kernel_rfl) (by kernel_rfl) (by kernel_rfl) (fun _ _ _ h => h) (Or.inl ⟨by rfl, fun u hu => by (go_simp)⟩) hS0 ?_
  simp only [List.getElem_toArray, List.getElem_cons_succ, List.getElem_cons_zero, Act.put, List.setIfInBounds_toArray, List.set_cons_zero, List.set_cons_succ]
  refine wpAnyZ.take (i := 9) (v := .pointer (some ⟨x, 0, none⟩)) rfl (by kernel_rfl) (by kernel_rfl) (by kernel_rfl) (by kernel_rfl) (by kernel_rfl) (fun _ _ _ h => h) (Or.inl ⟨by rfl, fun u hu => by (go_simp)⟩) hS0 ?_
  simp only [List.getElem_toArray, List.getElem_cons_succ, List.getElem_cons_zero, Act.put, List.setIfInBounds_toArray, List.set_cons_zero, List.set_cons_succ]
  refine wpAnyZ.take (i := 10) (v := .pointer (some ⟨x, 0, none⟩)) rfl (by kernel_rfl) (by kernel_rfl) (by kernel_rfl) (by kernel_rfl) (by kernel_rfl) (fun _ _ _ h => h) (Or.inl ⟨by rfl, fun u hu => by (go_simp)⟩) hS0 ?_
  simp only [List.getElem_toArray, List.getElem_cons_succ, List.getElem_cons_zero, Act.put, List.setIfInBounds_toArray, List.set_cons_zero, List.set_cons_succ]
  refine wpAnyZ.take (i := 11) (v := .pointer (some ⟨x, 0, none⟩)) rfl (by kernel_rfl) (by kernel_rfl) (by kernel_rfl) (by kernel_rfl) (by kernel_rfl) (fun _ _ _ h => h) (Or.inl ⟨by rfl, fun u hu => by (go_simp)⟩) hS0 ?_
  simp only [List.getElem_toArray, List.getElem_cons_succ, List.getElem_cons_zero, Act.put, List.setIfInBounds_toArray, List.set_cons_zero, List.set_cons_succ]
  refine wpAnyZ.take (i := 12) (v := .slice (some ⟨g, 0, none⟩) n cap) rfl (by kernel_rfl) (by kernel_rfl) (by kernel_rfl) (by kernel_rfl) (by kernel_rfl) (fun _ _ _ h => h) (Or.inl ⟨by rfl, fun u hu => by (have z0 := (hu.cell (p := ⟨x, 0, none⟩) xlt).trans x0; go_simp)⟩) hS0 ?_
  simp only [List.getElem_toArray, List.getElem_cons_succ, List.getElem_cons_zero, Act.put, List.setIfInBounds_toArray, List.set_cons_zero, List.set_cons_succ]
  refine wpAnyZ.take (i := 13) (v := .int .i64 (J : Int)) rfl (by kernel_rfl) (by kernel_rfl) (by kernel_rfl) (by kernel_rfl) (by kernel_rfl) (fun _ _ _ h => h) (Or.inl ⟨by rfl, fun u hu => by (go_simp)⟩) hS0 ?_
  simp only [List.getElem_toArray, List.getElem_cons_succ, List.getElem_cons_zero, Act.put, List.setIfInBounds_toArray, List.set_cons_zero, List.set_cons_succ]
  refine wpAnyZ.take (i := 14) (v := .int .i64 (J1 : Int)) rfl (by kernel_rfl) (by kernel_rfl) (by kernel_rfl) (by kernel_rfl) (by kernel_rfl) (fun _ _ _ h => h) (Or.inl ⟨by rfl, fun u hu => by (go_simp; exact IntWalk.i64_in _ (by omega))⟩) hS0 ?_
  simp only [List.getElem_toArray, List.getElem_cons_succ, List.getElem_cons_zero, Act.put, List.setIfInBounds_toArray, List.set_cons_zero, List.set_cons_succ]
  refine wpAnyZ.take (i := 15) (v := .slice (some A) (n - J1) (cap - J1)) rfl (by kernel_rfl) (by kernel_rfl) (by kernel_rfl) (by kernel_rfl) (by kernel_rfl) (fun _ _ _ h => h) (Or.inl ⟨by rfl, fun u hu => by (go_simp)⟩) hS0 ?_
  simp only [List.getElem_toArray, List.getElem_cons_succ, List.getElem_cons_zero, Act.put, List.setIfInBounds_toArray, List.set_cons_zero, List.set_cons_succ]
  refine wpAnyZ.ready (rs := [1]) (by kernel_rfl) (by simp) ?_
  refine AllZ.cons rfl (fun K hK => ?_) AllZ.nil
  go_simp
  have hb1 := below_one w1 (.cells #[] 68)
  have hS1 : Below w1.heap.size w1 (w1.alloc (.cells #[] 68)).drew := below_drew hb1
  have lit1 : OwnG (w1.alloc (.cells #[] 68)).drew w1.heap.size 68 3 (.slice (some ⟨w1.heap.size, 0, none⟩) 0 0) [] := (lit_own w1 68 3 (Nat.le_refl _)).same (fun _ _ => rfl)
  refine hK.out _ _ (fun _ => hS1) (fun _ => ?_)
  clear hK K
  simp only [List.setIfInBounds_toArray, List.set_cons_zero, List.set_cons_succ]
  generalize (w1.alloc (.cells #[] 68)).drew = W1 at *
  refine wpAnyZ.ready (rs := [8]) (by kernel_rfl) (by simp) ?_
  refine AllZ.cons rfl (fun K hK => ?_) AllZ.nil
  rw [if_pos (show Region.wanted _ _ = true by rfl)]
  refine wp_appQ info_rkey (by kernel_rfl) (by omega) (by omega) Try.underlying62 (.tmp 87) (.tmp 93) rfl rfl lit1 rfl (by rw [List.length_map]; exact HTL.out.1) (rowsK_keys (k.ks.take J)) (fun ad e j u hj => HTK.out _ hS1 ad e j u hj) (fun e => by cases e) (by simp; omega) hS1.size ?_
  intro v2 W2 hown2 hg2
  have hS2 := grown_below lit1 hS1 (Nat.le_refl _) hg2
  obtain ⟨va2, vc2, hv2, _⟩ := hown2.form
  rw [show ([] ++ (k.ks.take J).map kcells : List (List Value)).length = J by rw [List.nil_append, List.length_map]; exact HTL.out.1] at hv2
  subst hv2
  refine hK.out _ _ (fun _ => hS2) (fun _ => ?_)
  clear hK K
  simp only [List.setIfInBounds_toArray, List.set_cons_zero, List.set_cons_succ]
  refine wpAnyZ.ready (rs := [16]) (by kernel_rfl) (by simp) ?_
  refine AllZ.cons rfl (fun K hK => ?_) AllZ.nil
  rw [if_pos (show Region.wanted _ _ = true by rfl)]
  refine wp_appQ info_rkey (by kernel_rfl) (by omega) (by omega) Try.underlying62 (.tmp 94) (.tmp 101) rfl rfl hown2 rfl (by rw [List.length_map]; exact HTL.out.2) (rowsK_keys (k.ks.drop J1)) (fun ad e j u hj => by cases e; exact hsrc.out _ hS2 j u hj) (fun e => by cases e) (by have := HTL.out.1; simp only [List.nil_append, List.length_map]; omega) hS2.size ?_
  intro v3 W3 hown3 hg3
  have hS3 := grown_below hown2 hS2 (Nat.le_refl _) hg3
  obtain ⟨va3, vc3, hv3, _⟩ := hown3.form
  rw [show ([] ++ (k.ks.take J).map kcells ++ (k.ks.drop J1).map kcells : List (List Value)).length = n - 1 by rw [List.nil_append, List.length_append, List.length_map, List.length_map, HTL.out.1, HTL.out.2]; omega] at hv3
  subst hv3
  refine hK.out _ _ (fun _ => hS3) (fun _ => ?_)
  clear hK K
  simp only [List.setIfInBounds_toArray, List.set_cons_zero, List.set_cons_succ]
  refine wpAnyZ.ready (rs := [17]) (by kernel_rfl) (by simp) ?_
  refine AllZ.cons rfl (fun K hK => ?_) AllZ.nil
  go_simp
  refine hK.out _ _ (fun _ => hS3) (fun _ => ?_)
  clear hK K
  simp only [List.setIfInBounds_toArray, List.set_cons_zero, List.set_cons_succ]
  refine wpAnyZ.ready (rs := [18]) (by kernel_rfl) (by simp) ?_
  refine AllZ.cons rfl (fun K hK => ?_) AllZ.nil
  go_simp
  refine hK.out _ _ (fun _ => hS3) (fun _ => ?_)
  clear hK K
  simp only [List.setIfInBounds_toArray, List.set_cons_zero, List.set_cons_succ]
  obtain ⟨hch, k0, kf⟩ := HR.out.put (ks' := k.ks.eraseIdx J) hS3 (by rw [← HER.out, List.map_append]; simpa using hown3) HB1.out
  have HCH := Lib.hid hch
  clear hch
  refine wpAnyZ.ready (rs := [19]) (by kernel_rfl) (by simp) ?_
  refine AllZ.cons rfl (fun K hK => ?_) AllZ.nil
  go_simp
  refine hK.out _ _ (fun h => absurd rfl h) (fun _ => ?_)
  clear hK K
  simp only [List.setIfInBounds_toArray, List.set_cons_zero, List.set_cons_succ]
  refine wpAnyZ.done (by kernel_rfl) ?_ _
  generalize W3.setCell ⟨x, 0, none⟩ _ = w5 at *
  go_wp2
  go_ret
  rw [HJ.out]
  exact ⟨rfl, HCH.out.low HB0.out⟩
set_option maxHeartbeats 4000000 in
theorem rapply_k2 {w : World} {B x : Nat} {v : Value} {k : Con} (h : RT w B x v k) (c : Cfg) (pa : Option Addr) (pn pc : Nat) {sa : Option Addr} {sn : Nat} (sc : Nat) (d : Ev) (hk : d.kd = 2) (hh : (k.ks.length : Int) ≤ c.he) :
    Calls Try.prog 25 #[.pointer (some ⟨x, 0, none⟩), cv c pa pn pc sa sn sc, .agg (evV d)] w fun e w' => e = .returned (.bool (decide (d.lv ≠ 1 ∨ (k.ks.length : Int) = c.he))) ∧ RChg B x k w w' := by
  have hX := bx_made w c pa pn pc sa sn sc d
  have e0 := hX.e.at_ 0
  have e2 := hX.e.at_ 2
  have e3 := hX.e.at_ 3
  have e4 := hX.e.at_ 4
  have c5 := hX.c.at_ 5
  have c10 := hX.c.at_ 10
  have HX := Lib.hid hX
  have H := Lib.hid h
  obtain ⟨a, cap, hv, hcap, _⟩ := h.form
  have hn0 : a = none → cap = 0 := fun e => by
    rcases h.own.2.2 with ⟨h1, _⟩ | ⟨g', cap', cur, h1, _⟩
    · rw [hv] at h1
      simp only [Value.slice.injEq] at h1
      exact h1.2.2
    · rw [hv, e] at h1
      simp only [Value.slice.injEq] at h1
      exact absurd h1.1 (by simp)
  have HN0 := Lib.hid hn0
  have x0 := (h.below hX.b).blk.at_ 0
  rw [hv] at x0
  have x1 : ((w.alloc (.cells (cc c pa pn pc sa sn sc) 25)).alloc (.cells (evV d) 39)).cell? ⟨x, 1, none⟩ = some (.int .i64 k.n) := (h.below hX.b).blk.at_ 1
  have HV := Lib.hid hv
  clear h hX hv hn0
  have b1 : (d.kd == 1) = false := by rw [hk]; rfl
  have b13 : (d.kd == 13) = false := by rw [hk]; rfl
  have b2 : (d.kd == 2) = true := by rw [hk]; rfl
  have HK := Lib.hid hk
  clear hk
  by_cases hl : d.lv = 1
  · have b3 : (d.lv != 1) = false := by rw [hl]; rfl
    by_cases hf : (k.ks.length : Int) = c.he
    · rw [decide_eq_true (show d.lv ≠ 1 ∨ (k.ks.length : Int) = c.he from .inr hf)]
      have b4 : ((k.ks.length : Int) == c.he) = true := beq_iff_eq.2 hf
      have HL := Lib.hid hl
      have HF := Lib.hid hf
      clear hl hf hh
      go_enter Try.func25, Try.ntmps25
      go_wp2_with fail
      go_quiet (fail)
      go_wp2
      go_ret
      exact ⟨rfl, H.out.stay (HX.out.b.trans ((below_drewN _ _).mono HX.out.b.size))⟩
    · rw [decide_eq_false (show ¬ (d.lv ≠ 1 ∨ (k.ks.length : Int) = c.he) from fun h => h.elim (fun h => h hl) hf)]
      have b4 : ((k.ks.length : Int) == c.he) = false := beq_eq_false_iff_ne.2 hf
      have HL := Lib.hid hl
      have HF := Lib.hid hf
      clear hl hf hh
      go_enter Try.func25, Try.ntmps25
      go_wp2_with fail
      go_quiet (fail)
      go_wp2
      go_ret
      exact ⟨rfl, H.out.stay (HX.out.b.trans ((below_drewN _ _).mono HX.out.b.size))⟩
  · have b3 : (d.lv != 1) = true := bne_iff_ne.2 hl
    rw [decide_eq_true (show d.lv ≠ 1 ∨ (k.ks.length : Int) = c.he from .inl hl)]
    have HL := Lib.hid hl
    clear hl hh
    go_enter Try.func25, Try.ntmps25
    go_wp2_with fail
    go_quiet (fail)
    go_wp2
    go_ret
    exact ⟨rfl, H.out.stay (HX.out.b.trans ((below_drewN _ _).mono HX.out.b.size))⟩
set_option maxHeartbeats 4000000 in
theorem rapply_else {w : World} {B x : Nat} {v : Value} {k : Con} (h : RT w B x v k) (c : Cfg) (pa : Option Addr) (pn pc : Nat) {sa : Option Addr} {sn : Nat} (sc : Nat) (d : Ev) (h1 : d.kd ≠ 1) (h13 : d.kd ≠ 13) (h2 : d.kd ≠ 2) :
    Calls Try.prog 25 #[.pointer (some ⟨x, 0, none⟩), cv c pa pn pc sa sn sc, .agg (evV d)] w fun e w' => e = .returned (.bool true) ∧ RChg B x k w w' := by
  have hX := bx_made w c pa pn pc sa sn sc d
  have e0 := hX.e.at_ 0
  have HX := Lib.hid hX
  have H := Lib.hid h
  have b1 : (d.kd == 1) = false := beq_eq_false_iff_ne.2 h1
  have b13 : (d.kd == 13) = false := beq_eq_false_iff_ne.2 h13
  have b2 : (d.kd == 2) = false := beq_eq_false_iff_ne.2 h2
  clear h hX h1 h13 h2
  go_enter Try.func25, Try.ntmps25
  go_wp2
  go_ret
  exact ⟨rfl, H.out.stay HX.out.b⟩
/-- The reference's Apply does what an event does to a content. -/
theorem rapply_any {w : World} {B x : Nat} {v : Value} {k : Con} (h : RT w B x v k) (c : Cfg) (pa : Option Addr) (pn pc : Nat) {sa : Option Addr} {sn : Nat} (sc : Nat) (d : Ev) (hS : Tris w 0 sa sn c.su) (hB : B ≤ w.heap.size) (hm : k.ks.length ≤ 1000) (hn : k.n ≤ 100000) (hh : (k.ks.length : Int) ≤ c.he) :
    Calls Try.prog 25 #[.pointer (some ⟨x, 0, none⟩), cv c pa pn pc sa sn sc, .agg (evV d)] w fun e w' => e = .returned (.bool (chO c k d).isSome) ∧ RChg B x ((chO c k d).getD k) w w' := by
  have hl := hS.1
  unfold chO
  by_cases k1 : d.kd = 1
  · rw [if_pos k1, hl]
    by_cases ho : 0 ≤ d.ot ∧ d.ot < (sn : Int)
    · by_cases hf : (k.ks.length : Int) = c.he
      · rw [if_neg (fun h => h.2 hf)]
        exact rapply_no1 h c pa pn pc sc d k1 (fun h => by omega)
      · rw [if_pos ⟨ho, hf⟩]
        exact rapply_yes1 h c pa pn pc sc d k1 hS hB hm hn (i := d.ot.toNat) (by omega) (by omega) (by omega)
    · rw [if_neg (fun h => ho h.1)]
      exact rapply_no1 h c pa pn pc sc d k1 (fun h => ho h.1)
  rw [if_neg k1]
  by_cases k13 : d.kd = 13
  · rw [if_pos k13]
    by_cases hl0 : 0 < k.ks.length
    · by_cases ht : (k.ks.getD (lstO k.ks) zk).t = d.tk
      · rw [if_pos ⟨hl0, ht⟩]
        exact rapply_yes13 h c pa pn pc sc d k13 hB hl0 hm ht
      · rw [if_neg (fun h => ht h.2)]
        exact rapply_other13 h c pa pn pc sc d k13 hl0 hm ht
    · rw [if_neg (fun h => hl0 h.1)]
      exact rapply_none13 h c pa pn pc sc d k13 (by omega)
  rw [if_neg k13]
  by_cases k2 : d.kd = 2
  · rw [if_pos k2]
    have hq := rapply_k2 h c pa pn pc (sa := sa) (sn := sn) sc d k2 hh
    by_cases hc : d.lv ≠ 1 ∨ (k.ks.length : Int) = c.he
    · rw [if_pos hc]
      rw [decide_eq_true hc] at hq
      exact hq
    · rw [if_neg hc]
      rw [decide_eq_false hc] at hq
      exact hq
  · rw [if_neg k2]
    exact rapply_else h c pa pn pc sc d k1 k13 k2
end Go.Proofs.Ytpmdmeolehabjaa
