/-
  The program's package order: what an event does to a content.
-/
import Derived.Test.YtpmdmeolehabjaaOrdB
import Derived.Deep.RegionHeldLaw
namespace Go.Proofs.Ytpmdmeolehabjaa
open Go Go.RowKit
set_option linter.unusedSimpArgs false
set_option linter.unusedVariables false

/-- A content has become another one. -/
def Chg (B x : Nat) (v : Value) (k' : Con) (w w' : World) : Prop :=
  ∃ v', CT w' B x v' k' ∧ Fr (x :: v.ownBlock.toList) w w' ∧ ∀ b, v'.ownBlock = some b → v.ownBlock = some b ∨ w.heap.size ≤ b
theorem CT.stay {w w' : World} {B x : Nat} {v : Value} {k : Con} (h : CT w B x v k) (hb : Below w.heap.size w w') : Chg B x v k w w' := ⟨v, h.below hb, Fr.old hb, fun b hb' => .inl hb'⟩
/-- An append as an operation of a drawn region. -/
theorem wp_appGr {w : World} {o : Oper} {a : Act} {K : Act → World → Prop} {Q : Exit → Act → World → Prop} {ts t : TypeId} {z : Value} {k b : Nat} (hinfo : (Try.prog.info? t).map (fun i => (i.zero, i.size, i.bytes)) = some (some z, k, b))
    (hz : z.cells.size = k) (hk : 0 < k) (hb1 : b ≤ 1000) (hu : Try.prog.underlying ts = some (.slice t)) (s x : Operand)
    (ho : o.op = .call { callee := .builtin .append, args := #[s, x], argTypes := #[ts, ts] })
    {base : Nat} {v : Value} {R : List (List Value)} (hs : a.eval s = v) (hown : OwnG w base t k v R) {ad : Addr} {m c : Nat} {q : List (List Value)} (hx : a.eval x = .slice (some ad) m c) (hm : q.length = m) (hr : RowsK k q) (hc : ∀ j u, q.flatten[j]? = some u → w.cell? (ad.add j) = some u)
    (hn : R.length + m ≤ 1000000) (hb : base ≤ w.heap.size)
    (h : ∀ v' w', OwnG w' base t k v' (R ++ q) → w.grownBy w' v.ownBlock → (v'.ownBlock = v.ownBlock ∨ v'.ownBlock = some w.heap.size) → K (a.put o.dst v') w') :
    o.wp Try.prog a w K Q := by
  subst hm
  obtain ⟨i0, hi, hz0, hz1, hz2⟩ := info_partsG hinfo
  obtain ⟨v', w', hr2, h2, h3, _, h5⟩ := run_append_own_at (P := Try.prog) w base ts o.type t i0 _ k b hu hi hz0 hz1 hz2 hz hk v R.length R.flatten hown.2 ad q.length c q.flatten hr.len hc hr.one (by unfold maxLen; omega) (by
    have : (R.length + q.length) * b ≤ 1000000 * 1000 := Nat.mul_le_mul hn hb1
    omega) hb
  unfold Oper.wp execOp
  simp only [ho, resolve, invoke, builtin, Sem.run_bind, Sem.run_pure, Result.andThen_ok, List.map_toArray, List.map_cons, List.map_nil, hs, hx, hr2]
  refine h v' w' ⟨hown.1.append hr, ?_⟩ h3 h5
  rw [List.flatten_append, List.length_append]
  exact h2
/-- The keys of a content have been replaced, and stored. -/
theorem CT.put {w w' : World} {B x : Nat} {v v' : Value} {k : Con} {ks' : List KO} (h : CT w B x v k) (hf : Fr v.ownBlock.toList w w') (hown : OwnG w' B 72 3 v' (ks'.map kcells)) (hv : ∀ b, v'.ownBlock = some b → v.ownBlock = some b ∨ w.heap.size ≤ b) :
    Chg B x v ⟨ks', k.n⟩ w (w'.setCell ⟨x, 0, none⟩ v') ∧ w'.cell? ⟨x, 0, none⟩ = some v ∧ w'.frozen? ⟨x, 0, none⟩ = false ∧ w'.cell? ⟨x, 1, none⟩ = some (.int .i64 k.n) := by
  have hxn : ∀ b, v.ownBlock = some b → b ≠ x := fun b hb => by
    obtain ⟨cur, hc⟩ := h.own.ty b hb
    exact hc.apart h.blk (by decide)
  have hb0 : Blk w' x 58 #[v, .int .i64 k.n] := h.blk.of_same (hf.block x h.blk.lt (fun hm => by
    rw [Option.mem_toList] at hm
    exact hxn x hm rfl))
  have hne : ∀ b, v'.ownBlock = some b → b ≠ x := fun b hb => by
    obtain ⟨cur, hc⟩ := hown.ty b hb
    exact hc.apart hb0 (by decide)
  refine ⟨⟨v', ⟨?_, hown.same (fun b hb => Below.heap_setCell w' ⟨x, 0, none⟩ v' b (hne b hb)), h.hx⟩, (hf.mono (fun b hb => List.mem_cons_of_mem _ hb)).setCell (.inl (by simp)) v', hv⟩, hb0.at_ 0, hb0.free 0, hb0.at_ 1⟩
  have := hb0.put 0 v'
  simpa using this
/-- The number of acceptances has grown. -/
theorem Chg.more {B x : Nat} {v : Value} {ks : List KO} {n m : Nat} {w w' : World} (h : Chg B x v ⟨ks, n⟩ w w') : Chg B x v ⟨ks, m⟩ w (w'.setCell ⟨x, 1, none⟩ (.int .i64 m)) := by
  obtain ⟨v', h1, h2, h3⟩ := h
  have hne : ∀ b, v'.ownBlock = some b → b ≠ x := fun b hb => by
    obtain ⟨cur, hc⟩ := h1.own.ty b hb
    exact hc.apart h1.blk (by decide)
  refine ⟨v', ⟨?_, h1.own.same (fun b hb => Below.heap_setCell w' ⟨x, 1, none⟩ _ b (hne b hb)), h1.hx⟩, h2.setCell (.inl (by simp)) _, h3⟩
  have := h1.blk.put 1 (.int .i64 m)
  simpa using this
theorem remove_none {w : World} {B x : Nat} {v : Value} {k : Con} (h : CT w B x v k) (hl : k.ks.length = 0) (t : Int) :
    Calls Try.prog 40 #[.pointer (some ⟨x, 0, none⟩), .int .i64 t] w fun e w' => e = .returned (.bool false) ∧ Chg B x v k w w' := by
  obtain ⟨a, cap, rfl, hc, _⟩ := h.form
  have x0 := h.blk.at_ 0
  have HC := Lib.hid (h.stay (Below.refl _ _))
  rw [hl] at x0
  clear h
  go_enter Try.func40, Try.ntmps40
  go_wp2
  go_ret
  exact ⟨rfl, HC.out⟩
set_option maxHeartbeats 2000000 in
theorem remove_other {w : World} {B x : Nat} {v : Value} {k : Con} (h : CT w B x v k) (hl : 0 < k.ks.length) (hm : k.ks.length ≤ 1000) (t : Int) (ht : (k.ks.getD (lstO k.ks) zk).t ≠ t) :
    Calls Try.prog 40 #[.pointer (some ⟨x, 0, none⟩), .int .i64 t] w fun e w' => e = .returned (.bool false) ∧ Chg B x v k w w' := by
  obtain ⟨a, cap, hv, hc, hcell⟩ := h.form
  have hlt := lstO_lt hl
  obtain ⟨g, rfl, c0, c1, c2⟩ := hcell _ hlt
  have hls := Lib.hid (lstO_any h hm)
  have H := Lib.hid h
  have hgl : g < w.heap.size := World.block_lt_of_cell? _ _ c0
  have x0 : w.cell? ⟨x, 0, none⟩ = some (.slice (some ⟨g, 0, none⟩) k.ks.length cap) := by rw [← hv]; exact h.blk.at_ 0
  have hne : ((k.ks.length : Int) == 0) = false := beq_eq_false_iff_ne.2 (by omega)
  have hne2 : ((k.ks.getD (lstO k.ks) zk).t != t) = true := bne_iff_ne.2 ht
  have HV := Lib.hid hv
  generalize hJ : lstO k.ks = J at *
  generalize hU : k.ks.getD J zk = U at *
  generalize hN : k.ks.length = n at *
  have j0 : (0 : Int) ≤ (J : Int) := by omega
  have j1 : (J : Int) < (n : Int) := by omega
  have HX := Lib.hid x0
  have HC2 := Lib.hid c2
  clear hv hcell h c0 c1 hJ hU hN ht
  go_enter Try.func40, Try.ntmps40
  go_wp2_with fail
  (with_reducible refine hls.out.mono ?_)
  rintro e w1 ⟨rfl, hb⟩
  have HB := Lib.hid hb
  clear x0 c2 hls hb
  have x0 := (HB.out.cell (p := ⟨x, 0, none⟩) H.out.blk.lt).trans HX.out
  have c2 := (HB.out.cell (p := ⟨g, J * 3 + 2, none⟩) hgl).trans HC2.out
  go_wp2
  go_ret
  exact ⟨rfl, H.out.stay HB.out⟩
theorem erase_map {α β : Type} (f : α → β) : ∀ (l : List α) (i : Nat), (l.map f).eraseIdx i = (l.eraseIdx i).map f
  | [], i => by simp
  | x :: l, 0 => rfl
  | x :: l, i + 1 => by simp [erase_map f l i]
set_option maxHeartbeats 2000000 in
theorem remove_yes {w : World} {B x : Nat} {v : Value} {k : Con} (h : CT w B x v k) (hl : 0 < k.ks.length) (hm : k.ks.length ≤ 1000) (t : Int) (ht : (k.ks.getD (lstO k.ks) zk).t = t) :
    Calls Try.prog 40 #[.pointer (some ⟨x, 0, none⟩), .int .i64 t] w fun e w' => e = .returned (.bool true) ∧ Chg B x v ⟨k.ks.eraseIdx (lstO k.ks), k.n⟩ w w' := by
  obtain ⟨a, cap, hv, hc, hcell⟩ := h.form
  have hlt := lstO_lt hl
  obtain ⟨g, rfl, c0, c1, c2⟩ := hcell _ hlt
  have hls := Lib.hid (lstO_any h hm)
  have H := Lib.hid h
  have hgl : g < w.heap.size := World.block_lt_of_cell? _ _ c0
  have x0 : w.cell? ⟨x, 0, none⟩ = some (.slice (some ⟨g, 0, none⟩) k.ks.length cap) := by rw [← hv]; exact h.blk.at_ 0
  have hne : ((k.ks.length : Int) == 0) = false := beq_eq_false_iff_ne.2 (by omega)
  have hne2 : ((k.ks.getD (lstO k.ks) zk).t != t) = false := by rw [ht]; exact bne_self_eq_false t
  have HV := Lib.hid hv
  have HL := Lib.hid hlt
  obtain ⟨J, hJ⟩ : ∃ J, lstO k.ks = J := ⟨_, rfl⟩
  have HJ := Lib.hid hJ
  have HM := Lib.hid hm
  rw [hJ] at hls hlt c0 c1 c2 hne2 ht
  obtain ⟨U, hU⟩ : ∃ U, k.ks.getD J zk = U := ⟨_, rfl⟩
  rw [hU] at c0 c1 c2 hne2 ht
  obtain ⟨n, hN⟩ : ∃ n, k.ks.length = n := ⟨_, rfl⟩
  have HN := Lib.hid hN
  rw [hN] at hc hl hm hlt x0 hne
  have j0 : (0 : Int) ≤ (J : Int) := by omega
  have j1 : (J : Int) < (n : Int) := by omega
  have HX := Lib.hid x0
  have HC2 := Lib.hid c2
  have HXL := Lib.hid h.blk.lt
  clear hv hcell h c0 c1 hJ hU hN ht
  go_enter Try.func40, Try.ntmps40
  go_wp2_with fail
  (with_reducible refine hls.out.mono ?_)
  rintro e w1 ⟨rfl, hb⟩
  have HB := Lib.hid hb
  clear x0 c2 hls hb
  have x0 := (HB.out.cell (p := ⟨x, 0, none⟩) HXL.out).trans HX.out
  have c2 := (HB.out.cell (p := ⟨g, J * 3 + 2, none⟩) hgl).trans HC2.out
  go_wp2_with fail
  have hC1 := H.out.below HB.out
  have hD := delete_any (i := J) hC1.own (by rw [List.length_map, HN.out]; exact hlt) (by rw [List.length_map]; exact HM.out) (j := (J : Int) + 1) rfl
  rw [HV.out, HN.out] at hD
  (with_reducible refine hD.mono ?_)
  rintro e w2 ⟨g', cap', e', rfl, hown, hf⟩
  rw [List.length_map, HN.out] at hown ⊢
  simp only [Value.slice.injEq, Option.some.injEq, Addr.mk.injEq, and_true, true_and] at e'
  obtain ⟨eg, _, ec⟩ := e'
  subst eg
  subst ec
  have hlen : (k.ks.eraseIdx J).length = n - 1 := by rw [List.length_eraseIdx_of_lt (by rw [HN.out]; exact hlt), HN.out]
  have hfb : Fr v.ownBlock.toList w1 w2 := by rw [HV.out]; exact hf
  obtain ⟨hchg, c0, c0f, c1⟩ := hC1.put (ks' := k.ks.eraseIdx J) hfb (by rw [erase_map] at hown; exact hown) (fun b hb => .inl (by rw [HV.out]; exact hb))
  rw [HV.out, HN.out] at c0
  have HCH := Lib.hid hchg
  clear hD hC1 hown hf hfb hchg x0 c2
  go_wp2
  go_ret
  obtain ⟨v', q1, q2, q3⟩ := HCH.out
  rw [HN.out]
  refine ⟨rfl, v', ?_, (Fr.old HB.out).trans q2, fun b hb => (q3 b hb).imp id (fun h => Nat.le_trans HB.out.size h)⟩
  rw [HJ.out]
  exact q1
theorem tri_at {w : World} {B n : Nat} {a : Option Addr} {l : List T3} (h : Tris w B a n l) {i : Nat} (hi : i < n) : ∃ x : Addr, a = some x ∧ x.block < w.heap.size ∧ w.cell? ⟨(x.add (i * 3)).block, (x.add (i * 3)).off + 2, none⟩ = some (.int .i64 (l.getD i z3).2.2) := by
  obtain ⟨x, e, _, hx, _, _, h2⟩ := h.2.2 i hi
  exact ⟨x, e, hx, cell_field (i := i * 3) (j := 1) h2⟩
/-- A configuration and an event, boxed. -/
structure BX (w : World) (W : World) (g : Nat) (c : Cfg) (pa : Option Addr) (pn pc : Nat) (sa : Option Addr) (sn sc : Nat) (d : Ev) : Prop where
  b : Below w.heap.size w W
  c : Blk W w.heap.size 25 (cc c pa pn pc sa sn sc)
  e : Blk W (w.heap.size + 1) 39 (evV d)
theorem bx_made (w : World) (c : Cfg) (pa : Option Addr) (pn pc : Nat) (sa : Option Addr) (sn sc : Nat) (d : Ev) : BX w ((w.alloc (.cells (cc c pa pn pc sa sn sc) 25)).alloc (.cells (evV d) 39)) 0 c pa pn pc sa sn sc d := by
  have h1 := below_one w (.cells (cc c pa pn pc sa sn sc) 25)
  have h2 := below_one (w.alloc (.cells (cc c pa pn pc sa sn sc) 25)) (.cells (evV d) 39)
  refine ⟨h1.trans (h2.mono h1.size), (Blk.made w _ _).below h2, ?_⟩
  have := Blk.made (w.alloc (.cells (cc c pa pn pc sa sn sc) 25)) 39 (evV d)
  rw [World.size_alloc] at this
  exact this
set_option maxHeartbeats 2000000 in
theorem accept_out {w : World} {B x : Nat} {v : Value} {k : Con} (h : CT w B x v k) (c : Cfg) (pa : Option Addr) (pn pc : Nat) (sa : Option Addr) (sn sc : Nat) (d : Ev) (ho : ¬ (0 ≤ d.ot ∧ d.ot < (sn : Int))) :
    Calls Try.prog 39 #[.pointer (some ⟨x, 0, none⟩), cv c pa pn pc sa sn sc, .agg (evV d)] w fun e w' => e = .returned (.bool false) ∧ Chg B x v k w w' := by
  have hX := bx_made w c pa pn pc sa sn sc d
  have e3 := hX.e.at_ 3
  have c10 := hX.c.at_ 10
  have HX := Lib.hid hX
  have HC := Lib.hid (h.stay hX.b)
  clear h hX
  by_cases h0 : d.ot < 0
  · have d0 : decide (d.ot < 0) = true := decide_eq_true h0
    have H0 := Lib.hid h0
    clear h0 ho
    go_enter Try.func39, Try.ntmps39
    go_wp2
    go_ret
    exact ⟨rfl, HC.out⟩
  · have d0 : decide (d.ot < 0) = false := decide_eq_false h0
    have d1 : decide ((sn : Int) ≤ d.ot) = true := decide_eq_true (by omega)
    have H0 := Lib.hid h0
    clear h0 ho
    go_enter Try.func39, Try.ntmps39
    go_wp2
    go_ret
    exact ⟨rfl, HC.out⟩
set_option maxHeartbeats 2000000 in
theorem accept_full {w : World} {B x : Nat} {v : Value} {k : Con} (h : CT w B x v k) (c : Cfg) (pa : Option Addr) (pn pc : Nat) (sa : Option Addr) (sn sc : Nat) (d : Ev) (ho : 0 ≤ d.ot ∧ d.ot < (sn : Int)) (hf : (k.ks.length : Int) = c.he) :
    Calls Try.prog 39 #[.pointer (some ⟨x, 0, none⟩), cv c pa pn pc sa sn sc, .agg (evV d)] w fun e w' => e = .returned (.bool false) ∧ Chg B x v k w w' := by
  have hX := bx_made w c pa pn pc sa sn sc d
  have e3 := hX.e.at_ 3
  obtain ⟨c0, c1, c2, c3, c4, c5, c6, c7, c8, c9, c10⟩ := eleven hX.c
  have HX := Lib.hid hX
  have H := Lib.hid h
  have hcall := full_any (h.below hX.b) c pa pn pc sa sn sc
  rw [show ((k.ks.length : Int) == c.he) = true from beq_iff_eq.2 hf] at hcall
  have HCALL := Lib.hid hcall
  have d0 : decide (d.ot < 0) = false := decide_eq_false (by omega)
  have d1 : decide ((sn : Int) ≤ d.ot) = false := decide_eq_false (by omega)
  clear h hX hcall ho hf
  go_enter Try.func39, Try.ntmps39
  go_wp2_with (with_reducible refine HCALL.out.mono ?_)
  rintro e w1 ⟨rfl, hb⟩
  have HB := Lib.hid (HX.out.b.trans (hb.mono HX.out.b.size))
  clear hb
  go_wp2
  go_ret
  exact ⟨rfl, H.out.stay HB.out⟩
set_option maxHeartbeats 1000000 in
theorem accept_yes {w : World} {B x : Nat} {v : Value} {k : Con} (h : CT w B x v k) (c : Cfg) (pa : Option Addr) (pn pc : Nat) {sa : Option Addr} {sn : Nat} (sc : Nat) (d : Ev) (hS : Tris w 0 sa sn c.su) (hyB : ∀ y, sa = some y → y.block < B) (hB : B ≤ w.heap.size) (hm : k.ks.length ≤ 1000) (hn : k.n ≤ 100000) {i : Nat} (ho : d.ot = (i : Int)) (hi : i < sn) (hf : (k.ks.length : Int) ≠ c.he) :
    Calls Try.prog 39 #[.pointer (some ⟨x, 0, none⟩), cv c pa pn pc sa sn sc, .agg (evV d)] w fun e w' => e = .returned (.bool true) ∧ Chg B x v ⟨k.ks ++ [⟨(c.su.getD i z3).2.2, k.n, d.tk⟩], k.n + 1⟩ w w' := by
  have hX := bx_made w c pa pn pc sa sn sc d
  have e3 := hX.e.at_ 3
  have e2 := hX.e.at_ 2
  rw [show (evV d)[3]? = some (.int .i64 (i : Int)) by rw [← ho]; rfl] at e3
  obtain ⟨c0, c1, c2, c3, c4, c5, c6, c7, c8, c9, c10⟩ := eleven hX.c
  have HX := Lib.hid hX
  have H := Lib.hid h
  have hcall := full_any (h.below hX.b) c pa pn pc sa sn sc
  rw [show ((k.ks.length : Int) == c.he) = false from beq_eq_false_iff_ne.2 hf] at hcall
  have HCALL := Lib.hid hcall
  obtain ⟨y, rfl, hy, hc2⟩ := tri_at hS hi
  have d0 : decide ((i : Int) < 0) = false := decide_eq_false (by omega)
  have d1 : decide ((sn : Int) ≤ (i : Int)) = false := decide_eq_false (by omega)
  have i0 : (0 : Int) ≤ (i : Int) := by omega
  have i1 : (i : Int) < (sn : Int) := by omega
  obtain ⟨dl, hdl⟩ : ∃ dl, (c.su.getD i z3).2.2 = dl := ⟨_, rfl⟩
  have HDL := Lib.hid hdl
  have HO := Lib.hid ho
  rw [hdl] at hc2
  have HY := Lib.hid hy
  have HYB := Lib.hid (hyB y rfl)
  have HC2 := Lib.hid hc2
  have HBB := Lib.hid hB
  have HM := Lib.hid hm
  clear h hX hcall ho hf hS hdl hc2 hB hyB
  go_enter Try.func39, Try.ntmps39
  go_wp2_with (with_reducible refine HCALL.out.mono ?_)
  rintro e w1 ⟨rfl, hb⟩
  have hE := HX.out.e.below hb
  have hC := HX.out.c.below hb
  have HB := Lib.hid (HX.out.b.trans (hb.mono HX.out.b.size))
  clear hb c0 c1 c2 c3 c4 c5 c6 c7 c8 c9 c10 e2 e3
  have hct := H.out.below HB.out
  obtain ⟨a, cap, hv, hcap, _⟩ := hct.form
  have x0 : w1.cell? ⟨x, 0, none⟩ = some (.slice a k.ks.length cap) := by rw [← hv]; exact hct.blk.at_ 0
  have x1 : w1.cell? ⟨x, 1, none⟩ = some (.int .i64 k.n) := hct.blk.at_ 1
  have e2 : w1.cell? ⟨w.heap.size + 1, 2, none⟩ = some (.int .i64 d.tk) := hE.at_ 2
  have e3' : w1.cell? ⟨w.heap.size + 1, 3, none⟩ = some (.int .i64 (i : Int)) := by rw [hE.at_ 3, ← HO.out]; rfl
  have c10 : w1.cell? ⟨w.heap.size, 10, none⟩ = some (.slice (some y) sn sc) := hC.at_ 10
  have s2 := (HB.out.cell (p := ⟨(y.add (i * 3)).block, (y.add (i * 3)).off + 2, none⟩) (by show (y.add (i * 3)).block < _; rw [block_add]; exact HY.out)).trans HC2.out
  have HV := Lib.hid hv
  have HCT := Lib.hid hct
  have y0 := (hct.below (below_one w1 (.cells #[.int .i64 dl, .int .i64 k.n, .int .i64 d.tk] 72))).blk.at_ 0
  rw [hv] at y0
  have hl2 := below_one w1 (.cells #[.int .i64 dl, .int .i64 k.n, .int .i64 d.tk] 72)
  have HO2 := Lib.hid (show OwnG (w1.alloc (.cells #[.int .i64 dl, .int .i64 k.n, .int .i64 d.tk] 72)).drew B 72 3 (.slice a k.ks.length cap) (k.ks.map kcells) by rw [← hv]; exact (hct.own.below hl2).same (fun _ _ => rfl))
  have H5 := Lib.hid (show ∀ j u, ([[.int .i64 dl, .int .i64 k.n, .int .i64 d.tk]] : List (List Value)).flatten[j]? = some u → (w1.alloc (.cells #[.int .i64 dl, .int .i64 k.n, .int .i64 d.tk] 72)).drew.cell? ((⟨w1.heap.size, 0, none⟩ : Addr).add j) = some u from made_row1 (Blk.made w1 _ _))
  have HN := Lib.hid (show (k.ks.map kcells).length + 1 ≤ 1000000 by rw [List.length_map]; omega)
  have HB2 := Lib.hid (show B ≤ (w1.alloc (.cells #[.int .i64 dl, .int .i64 k.n, .int .i64 d.tk] 72)).drew.heap.size by have := HBB.out; have := HB.out.size; have := hl2.size; show B ≤ (w1.alloc _).heap.size; omega)
  have hone := Lib.hid (show RowsK 3 [[.int .i64 dl, .int .i64 k.n, .int .i64 d.tk]] from fun r hr => by simp only [List.mem_cons, List.not_mem_nil, or_false] at hr; subst hr; exact ⟨rfl, fun u hu => by simp only [List.mem_cons, List.not_mem_nil, or_false] at hu; rcases hu with rfl | rfl | rfl <;> rfl⟩)
  have hkeep : ∀ (v4 : Value) (w4 : World), OwnG w4 B 72 3 v4 (k.ks.map kcells ++ [[.int .i64 dl, .int .i64 k.n, .int .i64 d.tk]]) → (w1.alloc (.cells #[.int .i64 dl, .int .i64 k.n, .int .i64 d.tk] 72)).drew.grownBy w4 (Value.ownBlock (.slice a k.ks.length cap)) → (v4.ownBlock = Value.ownBlock (.slice a k.ks.length cap) ∨ v4.ownBlock = some (w1.alloc (.cells #[.int .i64 dl, .int .i64 k.n, .int .i64 d.tk] 72)).drew.heap.size) →
      Chg B x v ⟨k.ks ++ [⟨dl, k.n, d.tk⟩], k.n⟩ w1 (w4.setCell ⟨x, 0, none⟩ v4) ∧ w4.cell? ⟨x, 0, none⟩ = some v ∧ w4.frozen? ⟨x, 0, none⟩ = false ∧ w4.cell? ⟨x, 1, none⟩ = some (.int .i64 k.n) := by
    intro v4 w4 hown hg hat
    rw [← HV.out] at hg hat
    have hf1 : Fr v.ownBlock.toList (w1.alloc (.cells #[.int .i64 dl, .int .i64 k.n, .int .i64 d.tk] 72)).drew w4 := ⟨hg.os, hg.tape, hg.output, hg.size, fun b hb hn => hg.block b hb (fun e => hn (by simp [← e]))⟩
    refine HCT.out.put (ks' := k.ks ++ [⟨dl, k.n, d.tk⟩]) (((Fr.refl _ w1).alloc _).drew.trans hf1) (by rw [List.map_append]; exact hown) (fun b hb => ?_)
    rcases hat with e | e
    · exact .inl (e.symm.trans hb)
    · right
      have h1 := hb.symm.trans e
      simp only [Option.some.injEq] at h1
      have h3 : b = (w1.alloc (.cells #[.int .i64 dl, .int .i64 k.n, .int .i64 d.tk] 72)).heap.size := h1
      have := hl2.size
      omega
  have HK := Lib.hid hkeep
  have HBE := Lib.hid hE
  have HBC := Lib.hid hC
  clear hkeep hl2 hct hv hE hC
  have mkS : ∀ U : World, U.cell? ⟨x, 1, none⟩ = some (.int .i64 k.n) → U.heap[w.heap.size]? = w1.heap[w.heap.size]? → U.heap[w.heap.size + 1]? = w1.heap[w.heap.size + 1]? → U.heap[y.block]? = w1.heap[y.block]? → (U.cell? ⟨x, 1, none⟩ = some (.int .i64 k.n) ∧ U.cell? ⟨w.heap.size + 1, 2, none⟩ = some (.int .i64 d.tk) ∧ U.cell? ⟨w.heap.size + 1, 3, none⟩ = some (.int .i64 (i : Int)) ∧ U.cell? ⟨w.heap.size, 10, none⟩ = some (.slice (some y) sn sc) ∧ U.cell? ⟨(y.add (i * 3)).block, (y.add (i * 3)).off + 2, none⟩ = some (.int .i64 dl)) := fun U a1 a2 a3 a4 => ⟨a1, (World.cell?_of_block (w := w1) a3).trans e2, (World.cell?_of_block (w := w1) a3).trans e3', (World.cell?_of_block (w := w1) a2).trans c10, (World.cell?_of_block (w := w1) (by show U.heap[(y.add (i * 3)).block]? = w1.heap[(y.add (i * 3)).block]?; rw [block_add]; exact a4)).trans s2⟩
  have hxlt := HCT.out.blk.lt
  have hS0 : (w1.drew.cell? ⟨x, 1, none⟩ = some (.int .i64 k.n) ∧ w1.drew.cell? ⟨w.heap.size + 1, 2, none⟩ = some (.int .i64 d.tk) ∧ w1.drew.cell? ⟨w.heap.size + 1, 3, none⟩ = some (.int .i64 (i : Int)) ∧ w1.drew.cell? ⟨w.heap.size, 10, none⟩ = some (.slice (some y) sn sc) ∧ w1.drew.cell? ⟨(y.add (i * 3)).block, (y.add (i * 3)).off + 2, none⟩ = some (.int .i64 dl)) := mkS w1.drew x1 rfl rfl rfl
  have hS1 : ((w1.alloc (.cells #[.int .i64 dl, .int .i64 k.n, .int .i64 d.tk] 72)).drew.cell? ⟨x, 1, none⟩ = some (.int .i64 k.n) ∧ (w1.alloc (.cells #[.int .i64 dl, .int .i64 k.n, .int .i64 d.tk] 72)).drew.cell? ⟨w.heap.size + 1, 2, none⟩ = some (.int .i64 d.tk) ∧ (w1.alloc (.cells #[.int .i64 dl, .int .i64 k.n, .int .i64 d.tk] 72)).drew.cell? ⟨w.heap.size + 1, 3, none⟩ = some (.int .i64 (i : Int)) ∧ (w1.alloc (.cells #[.int .i64 dl, .int .i64 k.n, .int .i64 d.tk] 72)).drew.cell? ⟨w.heap.size, 10, none⟩ = some (.slice (some y) sn sc) ∧ (w1.alloc (.cells #[.int .i64 dl, .int .i64 k.n, .int .i64 d.tk] 72)).drew.cell? ⟨(y.add (i * 3)).block, (y.add (i * 3)).off + 2, none⟩ = some (.int .i64 dl)) := by
    have hb := (below_one w1 (.cells #[.int .i64 dl, .int .i64 k.n, .int .i64 d.tk] 72)).block
    exact mkS _ ((World.cell?_of_block (w := w1) (hb x hxlt)).trans x1) (hb _ HBC.out.lt) (hb _ HBE.out.lt) (hb _ (by have := HB.out.size; have := HY.out; omega))
  have mkT := Lib.hid (show ∀ (v4 : Value) (w4 : World), OwnG w4 B 72 3 v4 (k.ks.map kcells ++ [[.int .i64 dl, .int .i64 k.n, .int .i64 d.tk]]) → (w1.alloc (.cells #[.int .i64 dl, .int .i64 k.n, .int .i64 d.tk] 72)).drew.grownBy w4 (Value.ownBlock (.slice a k.ks.length cap)) → w4.cell? ⟨x, 1, none⟩ = some (.int .i64 k.n) → (w4.cell? ⟨x, 1, none⟩ = some (.int .i64 k.n) ∧ w4.cell? ⟨w.heap.size + 1, 2, none⟩ = some (.int .i64 d.tk) ∧ w4.cell? ⟨w.heap.size + 1, 3, none⟩ = some (.int .i64 (i : Int)) ∧ w4.cell? ⟨w.heap.size, 10, none⟩ = some (.slice (some y) sn sc) ∧ w4.cell? ⟨(y.add (i * 3)).block, (y.add (i * 3)).off + 2, none⟩ = some (.int .i64 dl)) ∧ ∀ u, ((w4.setCell ⟨x, 0, none⟩ u).cell? ⟨x, 1, none⟩ = some (.int .i64 k.n) ∧ (w4.setCell ⟨x, 0, none⟩ u).cell? ⟨w.heap.size + 1, 2, none⟩ = some (.int .i64 d.tk) ∧ (w4.setCell ⟨x, 0, none⟩ u).cell? ⟨w.heap.size + 1, 3, none⟩ = some (.int .i64 (i : Int)) ∧ (w4.setCell ⟨x, 0, none⟩ u).cell? ⟨w.heap.size, 10, none⟩ = some (.slice (some y) sn sc) ∧ (w4.setCell ⟨x, 0, none⟩ u).cell? ⟨(y.add (i * 3)).block, (y.add (i * 3)).off + 2, none⟩ = some (.int .i64 dl)) from by
    intro v4 w4 hown hg c1
    rw [← HV.out] at hg
    have hf1 : Fr v.ownBlock.toList (w1.alloc (.cells #[.int .i64 dl, .int .i64 k.n, .int .i64 d.tk] 72)).drew w4 := ⟨hg.os, hg.tape, hg.output, hg.size, fun b hb hn => hg.block b hb (fun e => hn (by simp [← e]))⟩
    have hf := ((Fr.refl v.ownBlock.toList w1).alloc (.cells #[.int .i64 dl, .int .i64 k.n, .int .i64 d.tk] 72)).drew.trans hf1
    have apt : ∀ {q : Nat} {t : TypeId} {cs : Array Value}, Blk w1 q t cs → t ≠ 72 → q ∉ v.ownBlock.toList := fun {q t cs} hq ht hm => by
      rw [Option.mem_toList] at hm
      obtain ⟨cur, hc⟩ := HCT.out.own.ty q hm
      exact hq.apart hc ht rfl
    have b1 := hf.block _ HBC.out.lt (apt HBC.out (by decide))
    have b2 := hf.block _ HBE.out.lt (apt HBE.out (by decide))
    have b3 := hf.block y.block (by have := HB.out.size; have := HY.out; omega) (fun hm => by
      rw [Option.mem_toList] at hm
      have := (HCT.out.own.lt _ hm).1
      have := HYB.out
      omega)
    refine ⟨mkS w4 c1 b1 b2 b3, fun u => mkS _ ?_ ?_ ?_ ?_⟩
    · exact (World.cell?_setCell_other _ _ _ _ (by simp)).trans c1
    · exact (Below.heap_setCell w4 ⟨x, 0, none⟩ u _ (HBC.out.apart HCT.out.blk (by decide))).trans b1
    · exact (Below.heap_setCell w4 ⟨x, 0, none⟩ u _ (HBE.out.apart HCT.out.blk (by decide))).trans b2
    · exact (Below.heap_setCell w4 ⟨x, 0, none⟩ u y.block (by have := HCT.out.hx; have := HYB.out; show y.block ≠ x; omega)).trans b3)
  clear mkS
  -- REGION 3 BY HAND
  go_wp2_with fail
  refine wp_region_held_drew (S := (fun u => u.cell? ⟨x, 1, none⟩ = some (.int .i64 k.n) ∧ u.cell? ⟨w.heap.size + 1, 2, none⟩ = some (.int .i64 d.tk) ∧ u.cell? ⟨w.heap.size + 1, 3, none⟩ = some (.int .i64 (i : Int)) ∧ u.cell? ⟨w.heap.size, 10, none⟩ = some (.slice (some y) sn sc) ∧ u.cell? ⟨(y.add (i * 3)).block, (y.add (i * 3)).off + 2, none⟩ = some (.int .i64 dl))) (by kernel_rfl) hS0 (fun _ => ?_)
  change wpAnyH _ _ _ _ _ 24 #[false, false, false, false, false, false, false, false, false, false, false, false, false, false, false, false, false, false, false, false, false, false, false, false] _ (World.drew _)
  refine wpAnyH_take (i := 0) (v := .pointer (some ⟨x, 0, none⟩)) rfl (by kernel_rfl) (by kernel_rfl) (by kernel_rfl) (fun _ _ _ h => h) (Or.inl ⟨by rfl, fun u hu => by (go_simp)⟩) hS0 ?_
  simp only [List.getElem_toArray, List.getElem_cons_succ, List.getElem_cons_zero, Act.put, List.setIfInBounds_toArray, List.set_cons_zero, List.set_cons_succ]
  refine wpAnyH_take (i := 1) (v := .pointer (some ⟨x, 0, none⟩)) rfl (by kernel_rfl) (by kernel_rfl) (by kernel_rfl) (fun _ _ _ h => h) (Or.inl ⟨by rfl, fun u hu => by (go_simp)⟩) hS0 ?_
  simp only [List.getElem_toArray, List.getElem_cons_succ, List.getElem_cons_zero, Act.put, List.setIfInBounds_toArray, List.set_cons_zero, List.set_cons_succ]
  refine wpAnyH_take (i := 2) (v := .pointer (some ⟨x, 0, none⟩)) rfl (by kernel_rfl) (by kernel_rfl) (by kernel_rfl) (fun _ _ _ h => h) (Or.inl ⟨by rfl, fun u hu => by (go_simp)⟩) hS0 ?_
  simp only [List.getElem_toArray, List.getElem_cons_succ, List.getElem_cons_zero, Act.put, List.setIfInBounds_toArray, List.set_cons_zero, List.set_cons_succ]
  refine wpAnyH_take (i := 3) (v := .pointer (some ⟨x, 0, none⟩)) rfl (by kernel_rfl) (by kernel_rfl) (by kernel_rfl) (fun _ _ _ h => h) (Or.inl ⟨by rfl, fun u hu => by (go_simp)⟩) hS0 ?_
  simp only [List.getElem_toArray, List.getElem_cons_succ, List.getElem_cons_zero, Act.put, List.setIfInBounds_toArray, List.set_cons_zero, List.set_cons_succ]
  refine wpAnyH_take (i := 5) (v := .pointer (some ⟨w.heap.size, 10, none⟩)) rfl (by kernel_rfl) (by kernel_rfl) (by kernel_rfl) (fun _ _ _ h => h) (Or.inl ⟨by rfl, fun u hu => by (go_simp)⟩) hS0 ?_
  simp only [List.getElem_toArray, List.getElem_cons_succ, List.getElem_cons_zero, Act.put, List.setIfInBounds_toArray, List.set_cons_zero, List.set_cons_succ]
  refine wpAnyH_take (i := 6) (v := .slice (some y) sn sc) rfl (by kernel_rfl) (by kernel_rfl) (by kernel_rfl) (fun _ _ _ h => h) (Or.inl ⟨by rfl, fun u hu => by (obtain ⟨u1, u2, u3, u4, u5⟩ := hu; go_simp)⟩) hS0 ?_
  simp only [List.getElem_toArray, List.getElem_cons_succ, List.getElem_cons_zero, Act.put, List.setIfInBounds_toArray, List.set_cons_zero, List.set_cons_succ]
  refine wpAnyH_take (i := 7) (v := .pointer (some ⟨w.heap.size + 1, 3, none⟩)) rfl (by kernel_rfl) (by kernel_rfl) (by kernel_rfl) (fun _ _ _ h => h) (Or.inl ⟨by rfl, fun u hu => by (go_simp)⟩) hS0 ?_
  simp only [List.getElem_toArray, List.getElem_cons_succ, List.getElem_cons_zero, Act.put, List.setIfInBounds_toArray, List.set_cons_zero, List.set_cons_succ]
  refine wpAnyH_take (i := 8) (v := .int .i64 (i : Int)) rfl (by kernel_rfl) (by kernel_rfl) (by kernel_rfl) (fun _ _ _ h => h) (Or.inl ⟨by rfl, fun u hu => by (obtain ⟨u1, u2, u3, u4, u5⟩ := hu; go_simp)⟩) hS0 ?_
  simp only [List.getElem_toArray, List.getElem_cons_succ, List.getElem_cons_zero, Act.put, List.setIfInBounds_toArray, List.set_cons_zero, List.set_cons_succ]
  refine wpAnyH_take (i := 9) (v := .pointer (some (y.add (i * 3)))) rfl (by kernel_rfl) (by kernel_rfl) (by kernel_rfl) (fun _ _ _ h => h) (Or.inl ⟨by rfl, fun u hu => by (go_simp)⟩) hS0 ?_
  simp only [List.getElem_toArray, List.getElem_cons_succ, List.getElem_cons_zero, Act.put, List.setIfInBounds_toArray, List.set_cons_zero, List.set_cons_succ]
  refine wpAnyH_take (i := 10) (v := .pointer (some ⟨(y.add (i * 3)).block, (y.add (i * 3)).off + 2, none⟩)) rfl (by kernel_rfl) (by kernel_rfl) (by kernel_rfl) (fun _ _ _ h => h) (Or.inl ⟨by rfl, fun u hu => by (go_simp)⟩) hS0 ?_
  simp only [List.getElem_toArray, List.getElem_cons_succ, List.getElem_cons_zero, Act.put, List.setIfInBounds_toArray, List.set_cons_zero, List.set_cons_succ]
  refine wpAnyH_take (i := 11) (v := .int .i64 dl) rfl (by kernel_rfl) (by kernel_rfl) (by kernel_rfl) (fun _ _ _ h => h) (Or.inl ⟨by rfl, fun u hu => by (obtain ⟨u1, u2, u3, u4, u5⟩ := hu; go_simp)⟩) hS0 ?_
  simp only [List.getElem_toArray, List.getElem_cons_succ, List.getElem_cons_zero, Act.put, List.setIfInBounds_toArray, List.set_cons_zero, List.set_cons_succ]
  refine wpAnyH_take (i := 12) (v := .pointer (some ⟨x, 0, none⟩)) rfl (by kernel_rfl) (by kernel_rfl) (by kernel_rfl) (fun _ _ _ h => h) (Or.inl ⟨by rfl, fun u hu => by (go_simp)⟩) hS0 ?_
  simp only [List.getElem_toArray, List.getElem_cons_succ, List.getElem_cons_zero, Act.put, List.setIfInBounds_toArray, List.set_cons_zero, List.set_cons_succ]
  refine wpAnyH_take (i := 13) (v := .pointer (some ⟨x, 0, none⟩)) rfl (by kernel_rfl) (by kernel_rfl) (by kernel_rfl) (fun _ _ _ h => h) (Or.inl ⟨by rfl, fun u hu => by (go_simp)⟩) hS0 ?_
  simp only [List.getElem_toArray, List.getElem_cons_succ, List.getElem_cons_zero, Act.put, List.setIfInBounds_toArray, List.set_cons_zero, List.set_cons_succ]
  refine wpAnyH_take (i := 14) (v := .pointer (some ⟨x, 1, none⟩)) rfl (by kernel_rfl) (by kernel_rfl) (by kernel_rfl) (fun _ _ _ h => h) (Or.inl ⟨by rfl, fun u hu => by (go_simp)⟩) hS0 ?_
  simp only [List.getElem_toArray, List.getElem_cons_succ, List.getElem_cons_zero, Act.put, List.setIfInBounds_toArray, List.set_cons_zero, List.set_cons_succ]
  refine wpAnyH_take (i := 15) (v := .int .i64 k.n) rfl (by kernel_rfl) (by kernel_rfl) (by kernel_rfl) (fun _ _ _ h => h) (Or.inl ⟨by rfl, fun u hu => by (obtain ⟨u1, u2, u3, u4, u5⟩ := hu; go_simp)⟩) hS0 ?_
  simp only [List.getElem_toArray, List.getElem_cons_succ, List.getElem_cons_zero, Act.put, List.setIfInBounds_toArray, List.set_cons_zero, List.set_cons_succ]
  refine wpAnyH_take (i := 16) (v := .pointer (some ⟨w.heap.size + 1, 2, none⟩)) rfl (by kernel_rfl) (by kernel_rfl) (by kernel_rfl) (fun _ _ _ h => h) (Or.inl ⟨by rfl, fun u hu => by (go_simp)⟩) hS0 ?_
  simp only [List.getElem_toArray, List.getElem_cons_succ, List.getElem_cons_zero, Act.put, List.setIfInBounds_toArray, List.set_cons_zero, List.set_cons_succ]
  refine wpAnyH_take (i := 17) (v := .int .i64 d.tk) rfl (by kernel_rfl) (by kernel_rfl) (by kernel_rfl) (fun _ _ _ h => h) (Or.inl ⟨by rfl, fun u hu => by (obtain ⟨u1, u2, u3, u4, u5⟩ := hu; go_simp)⟩) hS0 ?_
  simp only [List.getElem_toArray, List.getElem_cons_succ, List.getElem_cons_zero, Act.put, List.setIfInBounds_toArray, List.set_cons_zero, List.set_cons_succ]
  refine wpAnyH_take (i := 18) (v := .agg #[.int .i64 dl, .int .i64 k.n, .int .i64 d.tk]) rfl (by kernel_rfl) (by kernel_rfl) (by kernel_rfl) (fun _ _ _ h => h) (Or.inl ⟨by rfl, fun u hu => by (go_simp)⟩) hS0 ?_
  simp only [List.getElem_toArray, List.getElem_cons_succ, List.getElem_cons_zero, Act.put, List.setIfInBounds_toArray, List.set_cons_zero, List.set_cons_succ]
  refine wpAnyH_ready (rs := [4, 19]) (by kernel_rfl) (by simp) ?_
  refine AllReadyH.cons rfl (fun K hK => ?_) (AllReadyH.cons rfl (fun K hK => ?_) AllReadyH.nil)
  · go_simp
    refine hK.out _ _ hS0 (fun _ => ?_)
    clear hK K
    simp only [List.setIfInBounds_toArray, List.set_cons_zero, List.set_cons_succ]
    refine wpAnyH_ready (rs := [19]) (by kernel_rfl) (by simp) ?_
    refine AllReadyH.cons rfl (fun K hK => ?_) AllReadyH.nil
    go_simp
    refine hK.out _ _ hS1 (fun _ => ?_)
    clear hK K
    simp only [List.setIfInBounds_toArray, List.set_cons_zero, List.set_cons_succ]
    refine wpAnyH_ready (rs := [20]) (by kernel_rfl) (by simp) ?_
    refine AllReadyH.cons rfl (fun K hK => ?_) AllReadyH.nil
    rw [if_pos (show Region.wanted _ _ = true by rfl)]
    refine wp_appGr info_key (by kernel_rfl) (by omega) (by omega) Try.underlying56 (.tmp 27) (.tmp 42) rfl rfl HO2.out rfl rfl hone.out H5.out HN.out HB2.out ?_
    intro v4 w4 hown4 hg4 hat4
    obtain ⟨hch, c0, f0, c1⟩ := HK.out v4 w4 hown4 hg4 hat4
    have HT := Lib.hid (mkT.out v4 w4 hown4 hg4 c1)
    rw [HV.out] at c0
    have HCH := Lib.hid hch
    obtain ⟨va, vc, hv4, _⟩ := hown4.form
    rw [show (k.ks.map kcells ++ [[Value.int .i64 dl, .int .i64 k.n, .int .i64 d.tk]]).length = k.ks.length + 1 by simp] at hv4
    rw [hv4]
    rw [hv4] at HCH
    clear hown4 hg4 hat4 hch hv4
    refine hK.out _ _ HT.out.1 (fun _ => ?_)
    clear hK K
    simp only [List.setIfInBounds_toArray, List.set_cons_zero, List.set_cons_succ]
    refine wpAnyH_take (i := 21) (v := .pointer (some ⟨x, 0, none⟩)) rfl (by kernel_rfl) (by kernel_rfl) (by kernel_rfl) (fun _ _ _ h => h) (Or.inl ⟨by rfl, fun u hu => by (go_simp)⟩) HT.out.1 ?_
    simp only [List.getElem_toArray, List.getElem_cons_succ, List.getElem_cons_zero, Act.put, List.setIfInBounds_toArray, List.set_cons_zero, List.set_cons_succ]
    refine wpAnyH_take (i := 22) (v := .pointer (some ⟨x, 0, none⟩)) rfl (by kernel_rfl) (by kernel_rfl) (by kernel_rfl) (fun _ _ _ h => h) (Or.inl ⟨by rfl, fun u hu => by (go_simp)⟩) HT.out.1 ?_
    simp only [List.getElem_toArray, List.getElem_cons_succ, List.getElem_cons_zero, Act.put, List.setIfInBounds_toArray, List.set_cons_zero, List.set_cons_succ]
    refine wpAnyH_ready (rs := [23]) (by kernel_rfl) (by simp) ?_
    refine AllReadyH.cons rfl (fun K hK => ?_) AllReadyH.nil
    go_simp
    refine hK.out _ _ (HT.out.2 _) (fun _ => ?_)
    clear hK K
    simp only [List.setIfInBounds_toArray, List.set_cons_zero, List.set_cons_succ]
    refine wpAnyH_done (by kernel_rfl) ?_ _
    clear HT c0 f0 c1
    generalize w4.setCell ⟨x, 0, none⟩ _ = w5 at *
    obtain ⟨v5, q1, q2, q3⟩ := HCH.out
    have c1 : w5.cell? ⟨x, 1, none⟩ = some (.int .i64 k.n) := q1.blk.at_ 1
    have f1 := q1.blk.free 1
    clear q1 q2 q3
    clear x0 x1 e2 e3' c10 s2 y0 hS0 hS1
    go_wp2
    go_ret
    have hfin := HCH.out.more (m := k.n + 1)
    obtain ⟨v6, r1, r2, r3⟩ := hfin
    refine ⟨rfl, v6, ?_, (Fr.old HB.out).trans r2, fun b hb => (r3 b hb).imp id (fun h => Nat.le_trans HB.out.size h)⟩
    rw [HDL.out]
    exact r1
  · go_simp
    refine hK.out _ _ hS1 (fun _ => ?_)
    clear hK K
    simp only [List.setIfInBounds_toArray, List.set_cons_zero, List.set_cons_succ]
    refine wpAnyH_ready (rs := [4]) (by kernel_rfl) (by simp) ?_
    refine AllReadyH.cons rfl (fun K hK => ?_) AllReadyH.nil
    go_simp
    refine hK.out _ _ hS1 (fun _ => ?_)
    clear hK K
    simp only [List.setIfInBounds_toArray, List.set_cons_zero, List.set_cons_succ]
    refine wpAnyH_ready (rs := [20]) (by kernel_rfl) (by simp) ?_
    refine AllReadyH.cons rfl (fun K hK => ?_) AllReadyH.nil
    rw [if_pos (show Region.wanted _ _ = true by rfl)]
    refine wp_appGr info_key (by kernel_rfl) (by omega) (by omega) Try.underlying56 (.tmp 27) (.tmp 42) rfl rfl HO2.out rfl rfl hone.out H5.out HN.out HB2.out ?_
    intro v4 w4 hown4 hg4 hat4
    obtain ⟨hch, c0, f0, c1⟩ := HK.out v4 w4 hown4 hg4 hat4
    have HT := Lib.hid (mkT.out v4 w4 hown4 hg4 c1)
    rw [HV.out] at c0
    have HCH := Lib.hid hch
    obtain ⟨va, vc, hv4, _⟩ := hown4.form
    rw [show (k.ks.map kcells ++ [[Value.int .i64 dl, .int .i64 k.n, .int .i64 d.tk]]).length = k.ks.length + 1 by simp] at hv4
    rw [hv4]
    rw [hv4] at HCH
    clear hown4 hg4 hat4 hch hv4
    refine hK.out _ _ HT.out.1 (fun _ => ?_)
    clear hK K
    simp only [List.setIfInBounds_toArray, List.set_cons_zero, List.set_cons_succ]
    refine wpAnyH_take (i := 21) (v := .pointer (some ⟨x, 0, none⟩)) rfl (by kernel_rfl) (by kernel_rfl) (by kernel_rfl) (fun _ _ _ h => h) (Or.inl ⟨by rfl, fun u hu => by (go_simp)⟩) HT.out.1 ?_
    simp only [List.getElem_toArray, List.getElem_cons_succ, List.getElem_cons_zero, Act.put, List.setIfInBounds_toArray, List.set_cons_zero, List.set_cons_succ]
    refine wpAnyH_take (i := 22) (v := .pointer (some ⟨x, 0, none⟩)) rfl (by kernel_rfl) (by kernel_rfl) (by kernel_rfl) (fun _ _ _ h => h) (Or.inl ⟨by rfl, fun u hu => by (go_simp)⟩) HT.out.1 ?_
    simp only [List.getElem_toArray, List.getElem_cons_succ, List.getElem_cons_zero, Act.put, List.setIfInBounds_toArray, List.set_cons_zero, List.set_cons_succ]
    refine wpAnyH_ready (rs := [23]) (by kernel_rfl) (by simp) ?_
    refine AllReadyH.cons rfl (fun K hK => ?_) AllReadyH.nil
    go_simp
    refine hK.out _ _ (HT.out.2 _) (fun _ => ?_)
    clear hK K
    simp only [List.setIfInBounds_toArray, List.set_cons_zero, List.set_cons_succ]
    refine wpAnyH_done (by kernel_rfl) ?_ _
    clear HT c0 f0 c1
    generalize w4.setCell ⟨x, 0, none⟩ _ = w5 at *
    obtain ⟨v5, q1, q2, q3⟩ := HCH.out
    have c1 : w5.cell? ⟨x, 1, none⟩ = some (.int .i64 k.n) := q1.blk.at_ 1
    have f1 := q1.blk.free 1
    clear q1 q2 q3
    clear x0 x1 e2 e3' c10 s2 y0 hS0 hS1
    go_wp2
    go_ret
    have hfin := HCH.out.more (m := k.n + 1)
    obtain ⟨v6, r1, r2, r3⟩ := hfin
    refine ⟨rfl, v6, ?_, (Fr.old HB.out).trans r2, fun b hb => (r3 b hb).imp id (fun h => Nat.le_trans HB.out.size h)⟩
    rw [HDL.out]
    exact r1
end Go.Proofs.Ytpmdmeolehabjaa
