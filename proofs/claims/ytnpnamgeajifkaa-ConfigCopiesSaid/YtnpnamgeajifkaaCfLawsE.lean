/-
  The walk of the statement ConfigCopies. (Written by wip/gen_cflawe.py.)
-/
import Derived.Test.YtnpnamgeajifkaaCfChg
import Derived.Test.YtnpnamgeajifkaaCfCloneB
import Derived.Test.YtnpnamgeajifkaaCfAwake
import Derived.Test.YtnpnamgeajifkaaCfEqual
import Derived.Test.YtnpnamgeajifkaaCfREq
import Derived.Test.YtnpnamgeajifkaaCfLawsA
import Derived.Deep.RegionHeld
namespace Go.Proofs.Ytnpnamgeajifkaa
open Go Go.RowKit
set_option linter.unusedSimpArgs false

theorem cellsT_set : ∀ (l : List T3) (o : Nat) (v : Int), ∃ l', l'.length = l.length ∧ (cellsT l).set o (.int .i64 v) = cellsT l'
  | [], _, _ => ⟨[], rfl, rfl⟩
  | e :: r, 0, v => ⟨(v, e.2.1, e.2.2) :: r, rfl, rfl⟩
  | e :: r, 1, v => ⟨(e.1, v, e.2.2) :: r, rfl, rfl⟩
  | e :: r, 2, v => ⟨(e.1, e.2.1, v) :: r, rfl, rfl⟩
  | e :: r, o + 3, v => by
    obtain ⟨l', hl, hc⟩ := cellsT_set r o v
    exact ⟨e :: l', by simp [hl], by simp [cellsT, hc]⟩
/-- A number stored anywhere leaves a row of triples one, of the same length. -/
theorem OwnT.putAny {w : World} {base : Nat} {t : TypeId} {v : Value} {l : List T3} (h : OwnT w base t v l) (g o : Nat) (u : Int) : ∃ l', l'.length = l.length ∧ OwnT (w.setCell ⟨g, o, none⟩ (.int .i64 u)) base t v l' := by
  rcases h.2 with ⟨rfl, h2⟩ | ⟨g2, cap, cur, rfl, h2, hg, rest⟩
  · have : l = [] := List.eq_nil_of_length_eq_zero h2
    subst this
    exact ⟨[], rfl, OwnT.nil _ _ _⟩
  · by_cases e : g = g2
    · subst e
      obtain ⟨l', hl, hc⟩ := cellsT_set l o u
      have hs := (World.ownsRow.stored h o (.int .i64 u)).1
      rw [hc] at hs
      refine ⟨l', hl, ?_⟩
      unfold OwnT
      rw [hl]
      exact hs
    · refine ⟨l, rfl, h.1, .inr ⟨g2, cap, cur, rfl, h2, (Below.heap_setCell w ⟨g, o, none⟩ _ g2 (fun e' => e (Eq.symm e'))).trans hg, rest⟩⟩
theorem OwnP.putAny {w : World} {base : Nat} {v : Value} {ps : List (List T3)} (h : OwnP w base v ps) {g : Nat} {cs : Array Value} {fr : Nat × Nat} (hg : w.heap[g]? = some (.cells cs 47 fr)) (o : Nat) (u : Int) :
    ∃ ps', ps'.length = ps.length ∧ (∀ k, (ps'.getD k []).length = (ps.getD k []).length) ∧ OwnP (w.setCell ⟨g, o, none⟩ (.int .i64 u)) base v ps' := by
  obtain ⟨vs, h1, h2, h3⟩ := h
  obtain ⟨ps', hl, hp⟩ := list_of [] (fun i (e : List T3) => e.length = (ps.getD i []).length ∧ OwnT (w.setCell ⟨g, o, none⟩ (.int .i64 u)) base 47 (vs.getD i (.slice none 0 0)) e) ps.length (fun i hi => (h3 i hi).putAny g o u)
  refine ⟨ps', hl, fun k => ?_, vs, by rw [h1, hl], ?_, fun i hi => (hp i (by omega)).2⟩
  · by_cases hk : k < ps.length
    · exact (hp k hk).1
    · have e1 : ps'.getD k [] = [] := by rw [List.getD_eq_getElem?_getD, List.getElem?_eq_none (by omega)]; rfl
      have e2 : ps.getD k [] = [] := by rw [List.getD_eq_getElem?_getD, List.getElem?_eq_none (by omega)]; rfl
      rw [e1, e2]
  · rw [hl]
    refine ⟨h2.1, ?_⟩
    rcases h2.2 with h4 | ⟨g2, cap, cur, e, h4, hgg, rest⟩
    · exact .inl h4
    · refine .inr ⟨g2, cap, cur, e, h4, (Below.heap_setCell w ⟨g, o, none⟩ _ g2 (fun e' => ?_)).trans hgg, rest⟩
      have e2 : g2 = g := e'
      subst e2
      rw [hgg] at hg
      cases hg
theorem OwnT.rowAt {w : World} {B : Nat} {t : TypeId} {a : Option Addr} {n c : Nat} {l : List T3} (h : OwnT w B t (.slice a n c) l) (hn : l.length = n) {i : Nat} (hi : i < n) :
    ∃ (x : Addr) (o p q : Int) (cs : Array Value), a = some x ∧ B ≤ x.block ∧ w.heap[x.block]? = some (.cells cs t (0, 0)) ∧ w.cell? (x.add (i * 3)) = some (.int .i64 o) ∧ w.cell? ⟨(x.add (i * 3)).block, (x.add (i * 3)).off + 1, none⟩ = some (.int .i64 p) ∧ w.cell? ⟨(x.add (i * 3)).block, (x.add (i * 3)).off + 2, none⟩ = some (.int .i64 q) ∧
      w.frozen? ⟨(x.add (i * 3)).block, (x.add (i * 3)).off + 1, none⟩ = false ∧ w.frozen? ⟨(x.add (i * 3)).block, (x.add (i * 3)).off + 2, none⟩ = false := by
  obtain ⟨x, o, p, q, rfl, hB, c0, c1, c2, f0, f1, f2⟩ := h.cellF hn hi
  rcases h.2 with ⟨h0, _⟩ | ⟨g, cap, cur, hv, _, hg, _⟩
  · cases h0
  · simp only [Value.slice.injEq, Option.some.injEq] at hv
    obtain ⟨rfl, _, _⟩ := hv
    exact ⟨_, o, p, q, cur, rfl, hB, hg, c0, c1, c2, f1, f2⟩

/-- The copy, while its numbers are changed: W is the world in which it was made, gz its box. -/
structure ZSt (W : World) (gz : Nat) (z : Cfg) (za : Option Addr) (zn zc : Nat) (va : Option Addr) (vn vc : Nat) (wr : World) : Prop where
  box : Blk wr gz 25 (cc z za zn zc va vn vc)
  pr : ∃ ps, ps.length = zn ∧ (∀ k, (ps.getD k []).length = (z.pr.getD k []).length) ∧ OwnP wr W.heap.size (.slice za zn zc) ps
  su : ∃ ss, ss.length = vn ∧ OwnT wr W.heap.size 49 (.slice va vn vc) ss
  bel : Below W.heap.size W wr
theorem ZSt.put {W wr : World} {gz : Nat} {z : Cfg} {za va : Option Addr} {zn zc vn vc : Nat} (h : ZSt W gz z za zn zc va vn vc wr) {g : Nat} {cs : Array Value} (hg : wr.heap[g]? = some (.cells cs 47 (0, 0))) (hB : W.heap.size ≤ g) {q : Addr} (hq : q = ⟨g, q.off, none⟩) (u : Int) :
    ZSt W gz z za zn zc va vn vc (wr.setCell q (.int .i64 u)) := by
  rw [hq]
  obtain ⟨ps, hl, hk, hp⟩ := h.pr
  obtain ⟨ss, hs, ht⟩ := h.su
  obtain ⟨ps', hl', hk', hp'⟩ := hp.putAny hg q.off u
  obtain ⟨ss', hs', ht'⟩ := ht.putAny g q.off u
  exact ⟨h.box.of_same (Below.heap_setCell wr ⟨g, q.off, none⟩ _ gz (fun e => Blk.apart h.box (show Blk wr g _ _ from hg) (by decide) e)), ⟨ps', hl'.trans hl, fun k => (hk' k).trans (hk k), hp'⟩, ⟨ss', hs'.trans hs, ht'⟩, h.bel.setCell hB _⟩
/-- The same for its submissions. -/
structure ZSu (W : World) (gz : Nat) (z : Cfg) (za : Option Addr) (zn zc : Nat) (va : Option Addr) (vn vc : Nat) (wr : World) : Prop where
  box : Blk wr gz 25 (cc z za zn zc va vn vc)
  su : ∃ ss, ss.length = vn ∧ OwnT wr W.heap.size 49 (.slice va vn vc) ss
  bel : Below W.heap.size W wr
theorem ZSu.put {W wr : World} {gz : Nat} {z : Cfg} {za va : Option Addr} {zn zc vn vc : Nat} (h : ZSu W gz z za zn zc va vn vc wr) {g : Nat} {cs : Array Value} (hg : wr.heap[g]? = some (.cells cs 49 (0, 0))) (hB : W.heap.size ≤ g) {q : Addr} (hq : q = ⟨g, q.off, none⟩) (u : Int) :
    ZSu W gz z za zn zc va vn vc (wr.setCell q (.int .i64 u)) := by
  rw [hq]
  obtain ⟨ss, hs, ht⟩ := h.su
  obtain ⟨ss', hs', ht'⟩ := ht.putAny g q.off u
  exact ⟨h.box.of_same (Below.heap_setCell wr ⟨g, q.off, none⟩ _ gz (fun e => Blk.apart h.box (show Blk wr g _ _ from hg) (by decide) e)), ⟨ss', hs'.trans hs, ht'⟩, h.bel.setCell hB _⟩
def ZR (W : World) (gz : Nat) (z : Cfg) (za : Option Addr) (zn zc : Nat) (va : Option Addr) (vn vc N : Nat) (i : Value) (wr : World) : Prop := ∃ k : Nat, k ≤ N ∧ i = .int .i64 k ∧ ZSt W gz z za zn zc va vn vc wr
def ZS (W : World) (gz : Nat) (z : Cfg) (za : Option Addr) (zn zc : Nat) (va : Option Addr) (vn vc N : Nat) (i : Value) (wr : World) : Prop := ∃ k : Nat, k ≤ N ∧ i = .int .i64 k ∧ ZSu W gz z za zn zc va vn vc wr
theorem setBlock {q x : Addr} {i : Nat} (h : q.block = (x.add i).block) (hp : q.spot = none) : q = ⟨x.block, q.off, none⟩ := by
  cases q
  simp only at h hp
  subst hp
  rw [block_add] at h
  rw [h]

/-- A configuration in a block. -/
def OneX (g : Nat) (c : Cfg) (pa : Option Addr) (pn pc : Nat) (sa : Option Addr) (sn sc : Nat) (u : World) : Prop := Eleven u g c pa pn pc sa sn sc
/-- Four configurations in blocks. -/
def FourE (g1 : Nat) (c : Cfg) (pa : Option Addr) (pn pc : Nat) (sa : Option Addr) (sn sc : Nat) (g2 : Nat) (d : Cfg) (qa : Option Addr) (qn qc : Nat) (ua : Option Addr) (un uc : Nat) (g3 : Nat) (x : Cfg) (ra : Option Addr) (rn rc : Nat) (ta : Option Addr) (tn tc : Nat)
    (g4 : Nat) (y : Cfg) (ha : Option Addr) (hn hc : Nat) (ka : Option Addr) (kn kc : Nat) (u : World) : Prop := Eleven u g1 c pa pn pc sa sn sc ∧ Eleven u g2 d qa qn qc ua un uc ∧ Eleven u g3 x ra rn rc ta tn tc ∧ Eleven u g4 y ha hn hc ka kn kc

set_option maxRecDepth 20000 in
set_option maxHeartbeats 32000000 in
theorem copies_law (c : Cfg) (pa : Option Addr) (pn pc : Nat) (sa : Option Addr) (sn sc : Nat) (d : Cfg) (qa : Option Addr) (qn qc : Nat) (ua : Option Addr) (un uc : Nat) (a : Option Addr) (L c' : Nat) (zs : List Int) (which byv : Int) (w : World)
    (hl : Lists w 0 c pa pn sa sn) (hl' : Lists w 0 d qa qn ua un) (h : InB w w.heap.size a L zs) :
    Calls Try.prog 7 #[cv c pa pn pc sa sn sc, cv d qa qn qc ua un uc, .slice a L c', .int .i64 which, .int .i64 byv] w fun e w' => e = .returned (.bool true) ∧ Below w.heap.size w w' := by
  have hmax := h.2.1
  unfold maxLen at hmax
  have B0 := (below_one w (.cells (cc c pa pn pc sa sn sc) 25)).alloc (by simp) (.cells (cc d qa qn qc ua un uc) 25)
  have hz : (w.alloc (.cells (cc c pa pn pc sa sn sc) 25)).heap.size = w.heap.size + 1 := by simp
  have X0 := (Blk.made w 25 (cc c pa pn pc sa sn sc)).alloc (.cells (cc d qa qn qc ua un uc) 25)
  have Y0 := Blk.made (w.alloc (.cells (cc c pa pn pc sa sn sc) 25)) 25 (cc d qa qn qc ua un uc)
  rw [hz] at Y0
  have H1 := Lib.hid (hl.below B0)
  have D1 := Lib.hid (hl'.below B0)
  have X1 := Lib.hid X0
  have Y1 := Lib.hid Y0
  have I1 := Lib.hid (h.up B0)
  have B1 := Lib.hid B0
  obtain ⟨e0, e1, e2, e3, e4, e5, e6, e7, e8, e9, e10⟩ := eleven X1.out
  clear B0 h hl hl' X0 Y0 hz
  obtain ⟨lb, hlb⟩ : ∃ b, lightB c = b := ⟨_, rfl⟩
  obtain ⟨lb', hlb'⟩ : ∃ b, lightB d = b := ⟨_, rfl⟩
  obtain ⟨sb, hsb⟩ : ∃ b, decide ((L : Int) ≤ 400) = b := ⟨_, rfl⟩
  have HLB := Lib.hid hlb
  have HLB' := Lib.hid hlb'
  have HSB := Lib.hid hsb
  clear hlb hsb hlb'
  go_enter Try.func7, Try.ntmps7
  go_wp2_with fail
  generalize (w.alloc (.cells (cc c pa pn pc sa sn sc) 25)).alloc (.cells (cc d qa qn qc ua un uc) 25) = W1 at *
  (with_reducible refine (light_any H1.out _ _).mono ?_)
  rintro e W2 ⟨rfl, hb⟩
  rw [HLB.out]
  have H2 := Lib.hid (H1.out.below hb)
  have D2 := Lib.hid (D1.out.below hb)
  have X2 := Lib.hid (X1.out.below hb)
  have Y2 := Lib.hid (Y1.out.below hb)
  have I2 := Lib.hid (I1.out.up hb)
  have B2 := Lib.hid (B1.out.trans (hb.mono B1.out.size))
  clear hb H1 X1 I1 B1 D1 Y1 e0 e1 e2 e3 e4 e5 e6 e7 e8 e9 e10
  cases lb with
  | false =>
    go_wp2
    go_ret
    exact ⟨rfl, B2.out⟩
  | true =>
  obtain ⟨e0, e1, e2, e3, e4, e5, e6, e7, e8, e9, e10⟩ := eleven Y2.out
  go_wp2_with fail
  (with_reducible refine (light_any D2.out _ _).mono ?_)
  rintro e W3 ⟨rfl, hb⟩
  rw [HLB'.out]
  have H3 := Lib.hid (H2.out.below hb)
  have D3 := Lib.hid (D2.out.below hb)
  have X3 := Lib.hid (X2.out.below hb)
  have Y3 := Lib.hid (Y2.out.below hb)
  have I3 := Lib.hid (I2.out.up hb)
  have B3 := Lib.hid (B2.out.trans (hb.mono B2.out.size))
  clear hb H2 X2 I2 B2 D2 Y2 e0 e1 e2 e3 e4 e5 e6 e7 e8 e9 e10
  cases lb' with
  | false =>
    go_wp2
    go_ret
    exact ⟨rfl, B3.out⟩
  | true =>
  go_wp2_with fail
  (with_reducible refine (short_nil _ _ _).mono ?_)
  rintro e w0 ⟨rfl, rfl⟩
  rw [HSB.out]
  cases sb with
  | false =>
    go_wp2
    go_ret
    exact ⟨rfl, B3.out⟩
  | true =>
  go_wp2_with fail
  (with_reducible refine (rdecode_any I3.out _).mono ?_)
  rintro e W4 ⟨v, rfl, hcfg, hb⟩
  obtain ⟨x, hx⟩ : ∃ x, decC (strm zs) = x := ⟨_, rfl⟩
  have hsz := dec_sizes (strm zs)
  have hea := dec_each (strm zs)
  rw [hx] at hcfg hsz hea
  have HXX := Lib.hid hx
  have HSZ := Lib.hid hsz
  have HEA := Lib.hid hea
  clear hx hsz hea
  obtain ⟨ra, rn, rc, ta, tn, tc, rfl, hl3⟩ := hcfg.isCfg
  have hb5 := hb.alloc hb.size (.cells (cc x ra rn rc ta tn tc) 25)
  have Q5 := Lib.hid (hl3.alloc (.cells (cc x ra rn rc ta tn tc) 25))
  have P5 := Lib.hid (Blk.made W4 25 (cc x ra rn rc ta tn tc))
  have H5 := Lib.hid (H3.out.below hb5)
  have D5 := Lib.hid (D3.out.below hb5)
  have X5 := Lib.hid (X3.out.below hb5)
  have Y5 := Lib.hid (Y3.out.below hb5)
  have I5 := Lib.hid (I3.out.up hb5)
  have B5 := Lib.hid (B3.out.trans (hb5.mono B3.out.size))
  clear hb hb5 hcfg hl3 H3 X3 B3 D3 Y3 I3
  obtain ⟨e0, e1, e2, e3, e4, e5, e6, e7, e8, e9, e10⟩ := eleven P5.out
  go_wp2_with fail
  generalize W4.alloc (.cells (cc x ra rn rc ta tn tc) 25) = W5 at *
  generalize W4.heap.size = g3 at *
  (with_reducible refine (changed_any Q5.out _ _ _ _).mono ?_)
  rintro e W6 ⟨v6, y, rfl, ⟨ha, hn, hc, ka, kn, kc, rfl, hl6⟩, hb⟩
  have hb7 := hb.alloc hb.size (.cells (cc y ha hn hc ka kn kc) 25)
  have F7 := Lib.hid (hl6.alloc (.cells (cc y ha hn hc ka kn kc) 25))
  have G7 := Lib.hid (Blk.made W6 25 (cc y ha hn hc ka kn kc))
  have H7 := Lib.hid (H5.out.below hb7)
  have D7 := Lib.hid (D5.out.below hb7)
  have Q7 := Lib.hid (Q5.out.below hb7)
  have X7 := Lib.hid (X5.out.below hb7)
  have Y7 := Lib.hid (Y5.out.below hb7)
  have P7 := Lib.hid (P5.out.below hb7)
  have I7 := Lib.hid (I5.out.up hb7)
  have B7 := Lib.hid (B5.out.trans (hb7.mono B5.out.size))
  clear hb hb7 hl6 H5 X5 B5 D5 Y5 I5 Q5 P5 e0 e1 e2 e3 e4 e5 e6 e7 e8 e9 e10
  go_wp2_with fail
  generalize W6.alloc (.cells (cc y ha hn hc ka kn kc) 25) = W7 at *
  generalize W6.heap.size = g4 at *
  have H8 := Lib.hid H7.out.drew
  have D8 := Lib.hid D7.out.drew
  have Q8 := Lib.hid Q7.out.drew
  have F8 := Lib.hid F7.out.drew
  have X8 := Lib.hid (X7.out.below (below_drew (Below.refl _ _)))
  have Y8 := Lib.hid (Y7.out.below (below_drew (Below.refl _ _)))
  have P8 := Lib.hid (P7.out.below (below_drew (Below.refl _ _)))
  have G8 := Lib.hid (G7.out.below (below_drew (Below.refl _ _)))
  have I8 := Lib.hid (show InB W7.drew W7.drew.heap.size a L zs from I7.out)
  have B8 := Lib.hid (below_drew B7.out)
  clear H7 D7 Q7 F7 X7 Y7 P7 G7 I7 B7
  obtain ⟨b1, hb1⟩ : ∃ b, decide (c = d) = b := ⟨_, rfl⟩
  obtain ⟨b2, hb2⟩ : ∃ b, decide (x = y) = b := ⟨_, rfl⟩
  have E1 := Lib.hid hb1
  have E2 := Lib.hid hb2
  have E3 := Lib.hid (show decide (c = c) = true from decide_eq_true rfl)
  clear hb1 hb2
  refine wp_region_held_drew (S := (FourE w.heap.size c pa pn pc sa sn sc (w.heap.size + 1) d qa qn qc ua un uc g3 x ra rn rc ta tn tc g4 y ha hn hc ka kn kc)) (by kernel_rfl) ⟨eleven X8.out, eleven Y8.out, eleven P8.out, eleven G8.out⟩ (fun _ => ?_)
  change wpAnyH _ _ _ _ _ 26 #[false, false, false, false, false, false, false, false, false, false, false, false, false, false, false, false, false, false, false, false, false, false, false, false, false, false] _ (World.drew _)
  refine wpAnyH_ready (rs := [0]) (by kernel_rfl) (by simp) ?_
  refine AllReadyH.cons rfl (fun K hK => ?_) AllReadyH.nil
  go_simp
  go_at_call 12
  (with_reducible refine (awake_any _).mono ?_)
  rintro e w9 ⟨rfl, b⟩
  have H9 := Lib.hid (H8.out.below b)
  have D9 := Lib.hid (D8.out.below b)
  have Q9 := Lib.hid (Q8.out.below b)
  have F9 := Lib.hid (F8.out.below b)
  have X9 := Lib.hid (X8.out.below b)
  have Y9 := Lib.hid (Y8.out.below b)
  have P9 := Lib.hid (P8.out.below b)
  have G9 := Lib.hid (G8.out.below b)
  have I9 := Lib.hid (I8.out.up b)
  have B9 := Lib.hid (B8.out.trans (b.mono B8.out.size))
  clear b H8 D8 Q8 F8 X8 Y8 P8 G8 I8 B8
  refine hK.out _ _ ⟨eleven X9.out, eleven Y9.out, eleven P9.out, eleven G9.out⟩ (fun _ => ?_)
  clear hK K
  simp only [List.setIfInBounds_toArray, List.set_cons_zero, List.set_cons_succ]
  refine wpAnyH_take (i := 1) (v := .bool false) rfl (by kernel_rfl) (by kernel_rfl) (by kernel_rfl) (fun _ _ _ h => h) (Or.inl ⟨by rfl, fun u hu => by (go_simp)⟩) ⟨eleven X9.out, eleven Y9.out, eleven P9.out, eleven G9.out⟩ ?_
  simp only [List.getElem_toArray, List.getElem_cons_succ, List.getElem_cons_zero, Act.put, List.setIfInBounds_toArray, List.set_cons_zero, List.set_cons_succ]
  refine wpAnyH_take (i := 2) (v := .bool false) rfl (by kernel_rfl) (by kernel_rfl) (by kernel_rfl) (fun _ _ _ h => h) (Or.inl ⟨by rfl, fun u hu => by (go_simp)⟩) ⟨eleven X9.out, eleven Y9.out, eleven P9.out, eleven G9.out⟩ ?_
  simp only [List.getElem_toArray, List.getElem_cons_succ, List.getElem_cons_zero, Act.put, List.setIfInBounds_toArray, List.set_cons_zero, List.set_cons_succ]
  refine wpAnyH_take (i := 3) (v := cv c pa pn pc sa sn sc) rfl (by kernel_rfl) (by kernel_rfl) (by kernel_rfl) (fun _ _ _ h => h) (Or.inl ⟨by rfl, fun u hu => by (obtain ⟨⟨e0, e1, e2, e3, e4, e5, e6, e7, e8, e9, e10⟩, _, _, _⟩ := hu; go_simp)⟩) ⟨eleven X9.out, eleven Y9.out, eleven P9.out, eleven G9.out⟩ ?_
  simp only [List.getElem_toArray, List.getElem_cons_succ, List.getElem_cons_zero, Act.put, List.setIfInBounds_toArray, List.set_cons_zero, List.set_cons_succ]
  refine wpAnyH_take (i := 4) (v := cv d qa qn qc ua un uc) rfl (by kernel_rfl) (by kernel_rfl) (by kernel_rfl) (fun _ _ _ h => h) (Or.inl ⟨by rfl, fun u hu => by (obtain ⟨_, ⟨e0, e1, e2, e3, e4, e5, e6, e7, e8, e9, e10⟩, _, _⟩ := hu; go_simp)⟩) ⟨eleven X9.out, eleven Y9.out, eleven P9.out, eleven G9.out⟩ ?_
  simp only [List.getElem_toArray, List.getElem_cons_succ, List.getElem_cons_zero, Act.put, List.setIfInBounds_toArray, List.set_cons_zero, List.set_cons_succ]
  refine wpAnyH_take (i := 6) (v := cv c pa pn pc sa sn sc) rfl (by kernel_rfl) (by kernel_rfl) (by kernel_rfl) (fun _ _ _ h => h) (Or.inl ⟨by rfl, fun u hu => by (obtain ⟨⟨e0, e1, e2, e3, e4, e5, e6, e7, e8, e9, e10⟩, _, _, _⟩ := hu; go_simp)⟩) ⟨eleven X9.out, eleven Y9.out, eleven P9.out, eleven G9.out⟩ ?_
  simp only [List.getElem_toArray, List.getElem_cons_succ, List.getElem_cons_zero, Act.put, List.setIfInBounds_toArray, List.set_cons_zero, List.set_cons_succ]
  refine wpAnyH_take (i := 7) (v := cv d qa qn qc ua un uc) rfl (by kernel_rfl) (by kernel_rfl) (by kernel_rfl) (fun _ _ _ h => h) (Or.inl ⟨by rfl, fun u hu => by (obtain ⟨_, ⟨e0, e1, e2, e3, e4, e5, e6, e7, e8, e9, e10⟩, _, _⟩ := hu; go_simp)⟩) ⟨eleven X9.out, eleven Y9.out, eleven P9.out, eleven G9.out⟩ ?_
  simp only [List.getElem_toArray, List.getElem_cons_succ, List.getElem_cons_zero, Act.put, List.setIfInBounds_toArray, List.set_cons_zero, List.set_cons_succ]
  refine wpAnyH_ready (rs := [5]) (by kernel_rfl) (by simp) ?_
  refine AllReadyH.cons rfl (fun K hK => ?_) AllReadyH.nil
  go_simp
  go_at_call 20
  (with_reducible refine (equal_any H9.out D9.out _ _ _ _).mono ?_)
  rintro e w10 ⟨rfl, b⟩
  rw [E1.out]
  have H10 := Lib.hid (H9.out.below b)
  have D10 := Lib.hid (D9.out.below b)
  have Q10 := Lib.hid (Q9.out.below b)
  have F10 := Lib.hid (F9.out.below b)
  have X10 := Lib.hid (X9.out.below b)
  have Y10 := Lib.hid (Y9.out.below b)
  have P10 := Lib.hid (P9.out.below b)
  have G10 := Lib.hid (G9.out.below b)
  have I10 := Lib.hid (I9.out.up b)
  have B10 := Lib.hid (B9.out.trans (b.mono B9.out.size))
  clear b H9 D9 Q9 F9 X9 Y9 P9 G9 I9 B9
  refine hK.out _ _ ⟨eleven X10.out, eleven Y10.out, eleven P10.out, eleven G10.out⟩ (fun _ => ?_)
  clear hK K
  simp only [List.setIfInBounds_toArray, List.set_cons_zero, List.set_cons_succ]
  refine wpAnyH_ready (rs := [8]) (by kernel_rfl) (by simp) ?_
  refine AllReadyH.cons rfl (fun K hK => ?_) AllReadyH.nil
  go_simp
  go_at_call 16
  (with_reducible refine (requal_any H10.out D10.out _ _ _ _).mono ?_)
  rintro e w11 ⟨rfl, b⟩
  rw [E1.out]
  have H11 := Lib.hid (H10.out.below b)
  have D11 := Lib.hid (D10.out.below b)
  have Q11 := Lib.hid (Q10.out.below b)
  have F11 := Lib.hid (F10.out.below b)
  have X11 := Lib.hid (X10.out.below b)
  have Y11 := Lib.hid (Y10.out.below b)
  have P11 := Lib.hid (P10.out.below b)
  have G11 := Lib.hid (G10.out.below b)
  have I11 := Lib.hid (I10.out.up b)
  have B11 := Lib.hid (B10.out.trans (b.mono B10.out.size))
  clear b H10 D10 Q10 F10 X10 Y10 P10 G10 I10 B10
  refine hK.out _ _ ⟨eleven X11.out, eleven Y11.out, eleven P11.out, eleven G11.out⟩ (fun _ => ?_)
  clear hK K
  simp only [List.setIfInBounds_toArray, List.set_cons_zero, List.set_cons_succ]
  refine wpAnyH_take (i := 9) (v := .bool false) rfl (by kernel_rfl) (by kernel_rfl) (by kernel_rfl) (fun _ _ _ h => h) (Or.inl ⟨by rfl, fun u hu => by (cases b1 <;> go_simp)⟩) ⟨eleven X11.out, eleven Y11.out, eleven P11.out, eleven G11.out⟩ ?_
  simp only [List.getElem_toArray, List.getElem_cons_succ, List.getElem_cons_zero, Act.put, List.setIfInBounds_toArray, List.set_cons_zero, List.set_cons_succ]
  refine wpAnyH_take (i := 10) (v := .bool false) rfl (by kernel_rfl) (by kernel_rfl) (by kernel_rfl) (fun _ _ _ h => h) (Or.inl ⟨by rfl, fun u hu => by (go_simp)⟩) ⟨eleven X11.out, eleven Y11.out, eleven P11.out, eleven G11.out⟩ ?_
  simp only [List.getElem_toArray, List.getElem_cons_succ, List.getElem_cons_zero, Act.put, List.setIfInBounds_toArray, List.set_cons_zero, List.set_cons_succ]
  refine wpAnyH_take (i := 11) (v := .bool false) rfl (by kernel_rfl) (by kernel_rfl) (by kernel_rfl) (fun _ _ _ h => h) (Or.inl ⟨by rfl, fun u hu => by (go_simp)⟩) ⟨eleven X11.out, eleven Y11.out, eleven P11.out, eleven G11.out⟩ ?_
  simp only [List.getElem_toArray, List.getElem_cons_succ, List.getElem_cons_zero, Act.put, List.setIfInBounds_toArray, List.set_cons_zero, List.set_cons_succ]
  refine wpAnyH_take (i := 12) (v := cv x ra rn rc ta tn tc) rfl (by kernel_rfl) (by kernel_rfl) (by kernel_rfl) (fun _ _ _ h => h) (Or.inl ⟨by rfl, fun u hu => by (obtain ⟨_, _, ⟨e0, e1, e2, e3, e4, e5, e6, e7, e8, e9, e10⟩, _⟩ := hu; go_simp)⟩) ⟨eleven X11.out, eleven Y11.out, eleven P11.out, eleven G11.out⟩ ?_
  simp only [List.getElem_toArray, List.getElem_cons_succ, List.getElem_cons_zero, Act.put, List.setIfInBounds_toArray, List.set_cons_zero, List.set_cons_succ]
  refine wpAnyH_take (i := 13) (v := cv y ha hn hc ka kn kc) rfl (by kernel_rfl) (by kernel_rfl) (by kernel_rfl) (fun _ _ _ h => h) (Or.inl ⟨by rfl, fun u hu => by (obtain ⟨_, _, _, ⟨e0, e1, e2, e3, e4, e5, e6, e7, e8, e9, e10⟩⟩ := hu; go_simp)⟩) ⟨eleven X11.out, eleven Y11.out, eleven P11.out, eleven G11.out⟩ ?_
  simp only [List.getElem_toArray, List.getElem_cons_succ, List.getElem_cons_zero, Act.put, List.setIfInBounds_toArray, List.set_cons_zero, List.set_cons_succ]
  refine wpAnyH_take (i := 15) (v := cv x ra rn rc ta tn tc) rfl (by kernel_rfl) (by kernel_rfl) (by kernel_rfl) (fun _ _ _ h => h) (Or.inl ⟨by rfl, fun u hu => by (obtain ⟨_, _, ⟨e0, e1, e2, e3, e4, e5, e6, e7, e8, e9, e10⟩, _⟩ := hu; go_simp)⟩) ⟨eleven X11.out, eleven Y11.out, eleven P11.out, eleven G11.out⟩ ?_
  simp only [List.getElem_toArray, List.getElem_cons_succ, List.getElem_cons_zero, Act.put, List.setIfInBounds_toArray, List.set_cons_zero, List.set_cons_succ]
  refine wpAnyH_take (i := 16) (v := cv y ha hn hc ka kn kc) rfl (by kernel_rfl) (by kernel_rfl) (by kernel_rfl) (fun _ _ _ h => h) (Or.inl ⟨by rfl, fun u hu => by (obtain ⟨_, _, _, ⟨e0, e1, e2, e3, e4, e5, e6, e7, e8, e9, e10⟩⟩ := hu; go_simp)⟩) ⟨eleven X11.out, eleven Y11.out, eleven P11.out, eleven G11.out⟩ ?_
  simp only [List.getElem_toArray, List.getElem_cons_succ, List.getElem_cons_zero, Act.put, List.setIfInBounds_toArray, List.set_cons_zero, List.set_cons_succ]
  refine wpAnyH_ready (rs := [14]) (by kernel_rfl) (by simp) ?_
  refine AllReadyH.cons rfl (fun K hK => ?_) AllReadyH.nil
  go_simp
  go_at_call 20
  (with_reducible refine (equal_any Q11.out F11.out _ _ _ _).mono ?_)
  rintro e w12 ⟨rfl, b⟩
  rw [E2.out]
  have H12 := Lib.hid (H11.out.below b)
  have D12 := Lib.hid (D11.out.below b)
  have Q12 := Lib.hid (Q11.out.below b)
  have F12 := Lib.hid (F11.out.below b)
  have X12 := Lib.hid (X11.out.below b)
  have Y12 := Lib.hid (Y11.out.below b)
  have P12 := Lib.hid (P11.out.below b)
  have G12 := Lib.hid (G11.out.below b)
  have I12 := Lib.hid (I11.out.up b)
  have B12 := Lib.hid (B11.out.trans (b.mono B11.out.size))
  clear b H11 D11 Q11 F11 X11 Y11 P11 G11 I11 B11
  refine hK.out _ _ ⟨eleven X12.out, eleven Y12.out, eleven P12.out, eleven G12.out⟩ (fun _ => ?_)
  clear hK K
  simp only [List.setIfInBounds_toArray, List.set_cons_zero, List.set_cons_succ]
  refine wpAnyH_ready (rs := [17]) (by kernel_rfl) (by simp) ?_
  refine AllReadyH.cons rfl (fun K hK => ?_) AllReadyH.nil
  go_simp
  go_at_call 16
  (with_reducible refine (requal_any Q12.out F12.out _ _ _ _).mono ?_)
  rintro e w13 ⟨rfl, b⟩
  rw [E2.out]
  have H13 := Lib.hid (H12.out.below b)
  have D13 := Lib.hid (D12.out.below b)
  have Q13 := Lib.hid (Q12.out.below b)
  have F13 := Lib.hid (F12.out.below b)
  have X13 := Lib.hid (X12.out.below b)
  have Y13 := Lib.hid (Y12.out.below b)
  have P13 := Lib.hid (P12.out.below b)
  have G13 := Lib.hid (G12.out.below b)
  have I13 := Lib.hid (I12.out.up b)
  have B13 := Lib.hid (B12.out.trans (b.mono B12.out.size))
  clear b H12 D12 Q12 F12 X12 Y12 P12 G12 I12 B12
  refine hK.out _ _ ⟨eleven X13.out, eleven Y13.out, eleven P13.out, eleven G13.out⟩ (fun _ => ?_)
  clear hK K
  simp only [List.setIfInBounds_toArray, List.set_cons_zero, List.set_cons_succ]
  refine wpAnyH_take (i := 18) (v := .bool false) rfl (by kernel_rfl) (by kernel_rfl) (by kernel_rfl) (fun _ _ _ h => h) (Or.inl ⟨by rfl, fun u hu => by (cases b2 <;> go_simp)⟩) ⟨eleven X13.out, eleven Y13.out, eleven P13.out, eleven G13.out⟩ ?_
  simp only [List.getElem_toArray, List.getElem_cons_succ, List.getElem_cons_zero, Act.put, List.setIfInBounds_toArray, List.set_cons_zero, List.set_cons_succ]
  refine wpAnyH_take (i := 19) (v := .bool false) rfl (by kernel_rfl) (by kernel_rfl) (by kernel_rfl) (fun _ _ _ h => h) (Or.inl ⟨by rfl, fun u hu => by (go_simp)⟩) ⟨eleven X13.out, eleven Y13.out, eleven P13.out, eleven G13.out⟩ ?_
  simp only [List.getElem_toArray, List.getElem_cons_succ, List.getElem_cons_zero, Act.put, List.setIfInBounds_toArray, List.set_cons_zero, List.set_cons_succ]
  refine wpAnyH_take (i := 20) (v := .bool false) rfl (by kernel_rfl) (by kernel_rfl) (by kernel_rfl) (fun _ _ _ h => h) (Or.inl ⟨by rfl, fun u hu => by (go_simp)⟩) ⟨eleven X13.out, eleven Y13.out, eleven P13.out, eleven G13.out⟩ ?_
  simp only [List.getElem_toArray, List.getElem_cons_succ, List.getElem_cons_zero, Act.put, List.setIfInBounds_toArray, List.set_cons_zero, List.set_cons_succ]
  refine wpAnyH_take (i := 21) (v := cv c pa pn pc sa sn sc) rfl (by kernel_rfl) (by kernel_rfl) (by kernel_rfl) (fun _ _ _ h => h) (Or.inl ⟨by rfl, fun u hu => by (obtain ⟨⟨e0, e1, e2, e3, e4, e5, e6, e7, e8, e9, e10⟩, _, _, _⟩ := hu; go_simp)⟩) ⟨eleven X13.out, eleven Y13.out, eleven P13.out, eleven G13.out⟩ ?_
  simp only [List.getElem_toArray, List.getElem_cons_succ, List.getElem_cons_zero, Act.put, List.setIfInBounds_toArray, List.set_cons_zero, List.set_cons_succ]
  refine wpAnyH_take (i := 22) (v := cv c pa pn pc sa sn sc) rfl (by kernel_rfl) (by kernel_rfl) (by kernel_rfl) (fun _ _ _ h => h) (Or.inl ⟨by rfl, fun u hu => by (obtain ⟨⟨e0, e1, e2, e3, e4, e5, e6, e7, e8, e9, e10⟩, _, _, _⟩ := hu; go_simp)⟩) ⟨eleven X13.out, eleven Y13.out, eleven P13.out, eleven G13.out⟩ ?_
  simp only [List.getElem_toArray, List.getElem_cons_succ, List.getElem_cons_zero, Act.put, List.setIfInBounds_toArray, List.set_cons_zero, List.set_cons_succ]
  refine wpAnyH_ready (rs := [23]) (by kernel_rfl) (by simp) ?_
  refine AllReadyH.cons rfl (fun K hK => ?_) AllReadyH.nil
  go_simp
  go_at_call 20
  (with_reducible refine (equal_any H13.out H13.out _ _ _ _).mono ?_)
  rintro e w14 ⟨rfl, b⟩
  rw [E3.out]
  have H14 := Lib.hid (H13.out.below b)
  have D14 := Lib.hid (D13.out.below b)
  have Q14 := Lib.hid (Q13.out.below b)
  have F14 := Lib.hid (F13.out.below b)
  have X14 := Lib.hid (X13.out.below b)
  have Y14 := Lib.hid (Y13.out.below b)
  have P14 := Lib.hid (P13.out.below b)
  have G14 := Lib.hid (G13.out.below b)
  have I14 := Lib.hid (I13.out.up b)
  have B14 := Lib.hid (B13.out.trans (b.mono B13.out.size))
  clear b H13 D13 Q13 F13 X13 Y13 P13 G13 I13 B13
  refine hK.out _ _ ⟨eleven X14.out, eleven Y14.out, eleven P14.out, eleven G14.out⟩ (fun _ => ?_)
  clear hK K
  simp only [List.setIfInBounds_toArray, List.set_cons_zero, List.set_cons_succ]
  refine wpAnyH_take (i := 24) (v := .bool false) rfl (by kernel_rfl) (by kernel_rfl) (by kernel_rfl) (fun _ _ _ h => h) (Or.inl ⟨by rfl, fun u hu => by (go_simp)⟩) ⟨eleven X14.out, eleven Y14.out, eleven P14.out, eleven G14.out⟩ ?_
  simp only [List.getElem_toArray, List.getElem_cons_succ, List.getElem_cons_zero, Act.put, List.setIfInBounds_toArray, List.set_cons_zero, List.set_cons_succ]
  refine wpAnyH_take (i := 25) (v := .bool false) rfl (by kernel_rfl) (by kernel_rfl) (by kernel_rfl) (fun _ _ _ h => h) (Or.inl ⟨by rfl, fun u hu => by (go_simp)⟩) ⟨eleven X14.out, eleven Y14.out, eleven P14.out, eleven G14.out⟩ ?_
  simp only [List.getElem_toArray, List.getElem_cons_succ, List.getElem_cons_zero, Act.put, List.setIfInBounds_toArray, List.set_cons_zero, List.set_cons_succ]
  refine wpAnyH_done (by kernel_rfl) ?_ _
  obtain ⟨e0, e1, e2, e3, e4, e5, e6, e7, e8, e9, e10⟩ := eleven P14.out
  clear H14 D14 F14 X14 Y14 G14
  have hrn : rn ≤ 1000 := by have := HSZ.out.2.1; have := Q14.out.pr.1; omega
  have htn : tn ≤ 1000 := by have := HSZ.out.2.2; have := Q14.out.su.1; omega
  go_wp2_with fail
  (with_reducible refine (clone_any Q14.out _ _ hrn htn (fun p hp => by have := HEA.out p hp; omega)).mono ?_)
  rintro e V1 ⟨v7, rfl, ⟨za, zn, zc, va, vn, vc, rfl, hop, hos, hlz⟩, hb⟩
  have hb2 := hb.alloc hb.size (.cells (cc x za zn zc va vn vc) 25)
  have zb : Blk (V1.alloc (.cells (cc x za zn zc va vn vc) 25)) V1.heap.size 25 (cc x za zn zc va vn vc) := Blk.made V1 _ _
  have Z1 := Lib.hid (show ZSt w14 V1.heap.size x za zn zc va vn vc (V1.alloc (.cells (cc x za zn zc va vn vc) 25)) from ⟨zb, ⟨x.pr, hlz.pr.1, fun _ => rfl, hop.below (below_one V1 _)⟩, ⟨x.su, hlz.su.1, hos.below (below_one V1 _)⟩, hb2⟩)
  have Z2 := Lib.hid (hlz.alloc (.cells (cc x za zn zc va vn vc) 25))
  have ZB := Lib.hid zb
  have Q2 := Lib.hid (Q14.out.below hb2)
  have P2 := Lib.hid (P14.out.below hb2)
  clear hb hb2 hop hos hlz zb hrn htn e0 e1 e2 e3 e4 e5 e6 e7 e8 e9 e10
  obtain ⟨e0, e1, e2, e3, e4, e5, e6, e7, e8, e9, e10⟩ := eleven P2.out
  obtain ⟨f0, f1, f2, f3, f4, f5, f6, f7, f8, f9, f10⟩ := eleven ZB.out
  go_wp2_with fail
  generalize V1.alloc (.cells (cc x za zn zc va vn vc) 25) = V2 at *
  generalize V1.heap.size = gz at *
  have E4 := Lib.hid (show decide (x = x) = true from decide_eq_true rfl)
  (with_reducible refine (requal_any Z2.out Q2.out _ _ _ _).mono ?_)
  rintro e V3 ⟨rfl, hb⟩
  rw [E4.out]
  have Z3 := Lib.hid (show ZSt w14 gz x za zn zc va vn vc V3 from ⟨Z1.out.box.below hb, (by obtain ⟨ps, h1, h2, h3⟩ := Z1.out.pr; exact ⟨ps, h1, h2, h3.below hb⟩), (by obtain ⟨ss, h1, h2⟩ := Z1.out.su; exact ⟨ss, h1, h2.below hb⟩), Z1.out.bel.trans (hb.mono Z1.out.bel.size)⟩)
  have hzn := Z2.out.pr.2.1
  have hvn := Z2.out.su.2.1
  unfold maxLen at hzn hvn
  clear hb Z1 Z2 ZB Q2 P2 e0 e1 e2 e3 e4 e5 e6 e7 e8 e9 e10 f0 f1 f2 f3 f4 f5 f6 f7 f8 f9 f10
  go_wp2_with fail
  go_loopw [14] (fun i wr => ZR w14 gz x za zn zc va vn vc zn i wr) (fun i _ => zn - (intOf i).toNat)
  case atStart => exact ⟨0, Nat.zero_le _, rfl, Z3.out⟩
  case round =>
    obtain ⟨i, hi, rfl, hst⟩ := hrel
    clear Z3
    have ZI := Lib.hid hst
    have z9 : wr.cell? ⟨gz, 9, none⟩ = some (.slice za zn zc) := hst.box.at_ 9
    clear hst
    by_cases hlt : i < zn
    · obtain ⟨m, hm⟩ : ∃ m, (x.pr.getD i []).length = m := ⟨_, rfl⟩
      have HM := Lib.hid hm
      have hm5 : m ≤ 5 := by
        rw [← hm, List.getD_eq_getElem?_getD]
        cases hx : x.pr[i]? with
        | none => simp
        | some p => exact HEA.out p (List.mem_of_getElem? hx)
      clear hm
      go_wp2_with fail
      go_loopw [15] (fun j wq => ZR w14 gz x za zn zc va vn vc m j wq) (fun j _ => m - (intOf j).toNat)
      case atStart => exact ⟨0, Nat.zero_le _, rfl, ZI.out⟩
      case round =>
        obtain ⟨j, hj, rfl, hst⟩ := hrel
        clear z9 ZI
        have ZJ := Lib.hid hst
        obtain ⟨ps, hpl, hpk, hpo⟩ := hst.pr
        have z9 : wr.cell? ⟨gz, 9, none⟩ = some (.slice za zn zc) := hst.box.at_ 9
        obtain ⟨q, b, m2, cp, p, rfl, hpi, hq, hc0, htp, hpm⟩ := hpo.at_ hpl hlt
        have hpg : ps.getD i [] = p := by rw [List.getD_eq_getElem?_getD, hpi]; rfl
        have hk2 := hpk i
        rw [hpg, hpm, HM.out] at hk2
        subst hk2
        have HPM := Lib.hid hpm
        have HTP := Lib.hid htp
        clear hst hpl hpk hpo hpi hpg hpm htp
        by_cases hjt : j < m2
        · obtain ⟨x2, o2, p2, q2, cs2, rfl, hB2, hg2, c0, c1, c2, f1, f2⟩ := HTP.out.rowAt HPM.out hjt
          have HG2 := Lib.hid hg2
          clear hg2
          go_wp2_with fail
          go_roundw
          case rel => exact ⟨j + 1, by omega, by go_num, ZJ.out.put HG2.out hB2 (q := ⟨(x2.add (j * 3)).block, (x2.add (j * 3)).off + 1, none⟩) (setBlock (x := x2) (i := j * 3) rfl rfl) _⟩
          case measure => simp [intOf]; omega
        · obtain rfl : j = m2 := by omega
          go_wp2_with fail
          go_roundw
          case rel => exact ⟨i + 1, by omega, by go_num, ZJ.out⟩
          case measure => simp [intOf]; omega
    · obtain rfl : i = zn := by omega
      have z10 : wr.cell? ⟨gz, 10, none⟩ = some (.slice va vn vc) := ZI.out.box.at_ 10
      have ZU := Lib.hid (show ZSu w14 gz x za i zc va vn vc wr from ⟨ZI.out.box, ZI.out.su, ZI.out.bel⟩)
      clear ZI
      go_wp2_with fail
      go_loopw [16] (fun i2 wq => ZS w14 gz x za i zc va vn vc vn i2 wq) (fun i2 _ => vn - (intOf i2).toNat)
      case atStart => exact ⟨0, Nat.zero_le _, rfl, ZU.out⟩
      case round =>
        obtain ⟨j, hj, rfl, hst⟩ := hrel
        clear z9 z10 ZU
        have ZJ := Lib.hid hst
        have z10 : wr.cell? ⟨gz, 10, none⟩ = some (.slice va vn vc) := hst.box.at_ 10
        obtain ⟨ss, hsl, hso⟩ := hst.su
        have HSO := Lib.hid hso
        have HSL := Lib.hid hsl
        clear hst hso hsl
        by_cases hjt : j < vn
        · obtain ⟨x2, o2, p2, q2, cs2, rfl, hB2, hg2, c0, c1, c2, f1, f2⟩ := HSO.out.rowAt HSL.out hjt
          have HG2 := Lib.hid hg2
          clear hg2
          go_wp2_with fail
          go_roundw
          case rel => exact ⟨j + 1, by omega, by go_num, ZJ.out.put HG2.out hB2 (q := ⟨(x2.add (j * 3)).block, (x2.add (j * 3)).off + 2, none⟩) (setBlock (x := x2) (i := j * 3) rfl rfl) _⟩
          case measure => simp [intOf]; omega
        · obtain rfl : j = vn := by omega
          go_wp2_with fail
          have hb := below_drew ZJ.out.bel
          have Q3 := Lib.hid (Q14.out.below hb)
          have P3 := Lib.hid (P14.out.below hb)
          have I3 := Lib.hid (I14.out.up hb)
          have B3 := Lib.hid (B14.out.trans (hb.mono B14.out.size))
          clear hb z10 ZJ HSO HSL
          refine wp_region_held_drew (S := (OneX g3 x ra rn rc ta tn tc)) (by kernel_rfl) (eleven P3.out) (fun _ => ?_)
          change wpAnyH _ _ _ _ _ 5 #[false, false, false, false, false] _ (World.drew _)
          refine wpAnyH_take (i := 0) (v := cv x ra rn rc ta tn tc) rfl (by kernel_rfl) (by kernel_rfl) (by kernel_rfl) (fun _ _ _ h => h) (Or.inl ⟨by rfl, fun u hu => by (obtain ⟨e0, e1, e2, e3, e4, e5, e6, e7, e8, e9, e10⟩ := hu; go_simp)⟩) (eleven P3.out) ?_
          simp only [List.getElem_toArray, List.getElem_cons_succ, List.getElem_cons_zero, Act.put, List.setIfInBounds_toArray, List.set_cons_zero, List.set_cons_succ]
          refine wpAnyH_take (i := 1) (v := .slice a L c') rfl (by kernel_rfl) (by kernel_rfl) (by kernel_rfl) (fun _ _ _ h => h) (Or.inl ⟨by rfl, fun u hu => by (go_simp)⟩) (eleven P3.out) ?_
          simp only [List.getElem_toArray, List.getElem_cons_succ, List.getElem_cons_zero, Act.put, List.setIfInBounds_toArray, List.set_cons_zero, List.set_cons_succ]
          refine wpAnyH_ready (rs := [2]) (by kernel_rfl) (by simp) ?_
          refine AllReadyH.cons rfl (fun K hK => ?_) AllReadyH.nil
          go_simp
          go_at_call 11
          (with_reducible refine (rdecode_any I3.out _).mono ?_)
          rintro e y4 ⟨v4, rfl, hcfg, b4⟩
          rw [HXX.out] at hcfg
          obtain ⟨la, ln, lc, ma, mn, mc, rfl, hl⟩ := hcfg.isCfg
          have N4 := Lib.hid hl
          have Q4 := Lib.hid (Q3.out.below b4)
          have P4 := Lib.hid (P3.out.below b4)
          have B4 := Lib.hid (B3.out.trans (b4.mono B3.out.size))
          clear hl hcfg b4 Q3 P3 B3 I3
          refine hK.out _ _ (eleven P4.out) (fun _ => ?_)
          clear hK K
          simp only [List.setIfInBounds_toArray, List.set_cons_zero, List.set_cons_succ]
          refine wpAnyH_ready (rs := [3]) (by kernel_rfl) (by simp) ?_
          refine AllReadyH.cons rfl (fun K hK => ?_) AllReadyH.nil
          go_simp
          go_at_call 16
          (with_reducible refine (requal_any Q4.out N4.out _ _ _ _).mono ?_)
          rintro e y5 ⟨rfl, b5⟩
          have hxx : decide (x = x) = true := decide_eq_true rfl
          rw [hxx]
          clear hxx
          have P5 := Lib.hid (P4.out.below b5)
          have B5 := Lib.hid (B4.out.trans (b5.mono B4.out.size))
          clear b5 Q4 N4 P4 B4
          refine hK.out _ _ (eleven P5.out) (fun _ => ?_)
          clear hK K
          simp only [List.setIfInBounds_toArray, List.set_cons_zero, List.set_cons_succ]
          refine wpAnyH_take (i := 4) (v := .bool true) rfl (by kernel_rfl) (by kernel_rfl) (by kernel_rfl) (fun _ _ _ h => h) (Or.inl ⟨by rfl, fun u hu => by (go_simp)⟩) (eleven P5.out) ?_
          simp only [List.getElem_toArray, List.getElem_cons_succ, List.getElem_cons_zero, Act.put, List.setIfInBounds_toArray, List.set_cons_zero, List.set_cons_succ]
          refine wpAnyH_done (by kernel_rfl) ?_ _
          go_wp2
          go_ret
          exact ⟨rfl, B5.out⟩
end Go.Proofs.Ytnpnamgeajifkaa
