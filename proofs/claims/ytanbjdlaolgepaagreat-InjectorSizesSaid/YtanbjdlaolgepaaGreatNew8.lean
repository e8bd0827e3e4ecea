/-
  The reference's New of an environment.
-/
import Derived.Test.YtanbjdlaolgepaaGreatMgAF
import Derived.Test.YtanbjdlaolgepaaGreatMgAI
import Derived.Deep.RegionHeld3
import Derived.Deep.RegionLaw
import Derived.Deep.RegionWith
import Derived.RegionTactic
import Derived.BigRegion
import Derived.LoopTactic
import Derived.StillTailTactics
namespace Go.Proofs.YtanbjdlaolgepaaGreat
open Go Go.RowKit
set_option linter.unusedSimpArgs false

theorem info_rec : (Tryz.prog.info? 119).map (fun i => (i.zero, i.size, i.bytes)) = some (some (.agg #[.int .i64 0, .int .i64 0, .int .i64 0, .int .i64 0, .int .i64 0, .slice none 0 0, .bool false]), 7, 72) := by kernel_rfl

/-- A new record. -/
abbrev freshR (a b : Int) : Rec := ⟨a, b, 0, 0, -1, [], false⟩
abbrev freshV (a b : Int) : Array Value := #[.int .i64 a, .int .i64 b, .int .i64 0, .int .i64 0, .int .i64 (-1), .slice none 0 0, .bool false]

theorem fresh_any (a b : Int) (w : World) : Calls Tryz.prog 41 #[.int .i64 a, .int .i64 b] w fun e w' => e = .returned (.agg (freshV a b)) ∧ Below w.heap.size w w' := by
  have hb := fun o => below_one w o
  go_enter Tryz.func41, Tryz.ntmps41
  go_wp2
  exact bodyPost_ret (v := .agg (freshV a b)) (by simp [results, Tryz.results41, go_sem]) rfl ⟨rfl, hb _⟩

theorem cellsR_append : ∀ (l : List Rec) (ks : List Value) (r : Rec) (k : Value), ks.length = l.length → cellsR (l ++ [r]) (ks ++ [k]) = cellsR l ks ++ rcl r k
  | [], [], _, _, _ => rfl
  | [], _ :: _, _, _, h => by simp at h
  | _ :: _, [], _, _, h => by simp at h
  | e :: l, x :: ks, r, k, h => by
    have := cellsR_append l ks r k (by simpa using h)
    simp only [List.cons_append, cellsR, List.headD_cons, List.tail_cons, this]

/-- The cells of a record that has no children. -/
def NewCells (w : World) (ad : Addr) (r : Rec) : Prop := ∀ j u, (rcl r (.slice none 0 0))[j]? = some u → w.cell? (ad.add j) = some u
theorem newCells (w : World) (a b : Int) : NewCells (w.alloc (.cells (freshV a b) 119)) ⟨w.heap.size, 0, none⟩ (freshR a b) := by
  intro j u hu
  have e : (⟨w.heap.size, 0, none⟩ : Addr).add j = ⟨w.heap.size, j, none⟩ := by unfold Addr.add; split <;> simp_all
  rw [e, (Blk.made w 119 (freshV a b)).at_, List.getElem?_toArray]
  exact hu

/-- An append of one record without children. -/
theorem step_appR {w : World} {ops : Array Oper} {o : Oper} {a : Act} {K : Act → World → Prop} {Q : Exit → Act → World → Prop} {E : Prop} (hgd : o.guard = none) (s x : Operand)
    (ho : o.op = .call { callee := .builtin .append, args := #[s, x], argTypes := #[40, 40] })
    {base : Nat} {v : Value} {l : List Rec} (hs : a.eval s = v) (hown : OwnR w base v l) {ad : Addr} {c : Nat} {r : Rec} (hr : r.ks = []) (hx : a.eval x = .slice (some ad) 1 c) (h5 : NewCells w ad r) (hn : l.length + 1 ≤ 1000000) (hb : base ≤ w.heap.size)
    (h : ∀ v' w', OwnR w' base v' (l ++ [r]) → w.grownBy w' v.ownBlock → K (a.put o.dst v') w') :
    if Region.wanted o (yielded ops a.tmps) = true then Oper.wp Tryz.prog o a w K Q else E := by
  obtain ⟨i0, hi, hz0, hz1, hz2⟩ := info_parts info_rec
  have hw : Region.wanted o (yielded ops a.tmps) = true := by simp [Region.wanted, hgd]
  rw [if_pos hw]
  obtain ⟨ks, h1, h2, h3⟩ := hown
  refine wp_append_own w s x 40 ho base 119 i0 _ 7 72 Tryz.underlying40 hi hz0 hz1 hz2 rfl (by omega) v l.length (cellsR l ks) hs h2 ad 1 c (rcl r (.slice none 0 0)) hx rfl h5 (by
    intro u hu
    simp only [List.mem_cons, List.not_mem_nil, or_false] at hu
    rcases hu with rfl | rfl | rfl | rfl | rfl | rfl | rfl <;> rfl) (by unfold maxLen; omega) (by omega) hb ?_
  intro v' w' g1 g2 _
  refine h v' w' ⟨ks ++ [.slice none 0 0], by simp [h1], ?_, fun i hi => ?_⟩ g2
  · rw [cellsR_append l ks r _ h1, List.length_append]
    exact g1
  · by_cases hil : i < l.length
    · have e1 : (ks ++ [Value.slice none 0 0]).getD i (.slice none 0 0) = ks.getD i (.slice none 0 0) := by
        rw [List.getD_eq_getElem?_getD, List.getD_eq_getElem?_getD, List.getElem?_append_left (by omega)]
      have e2 : ((l ++ [r]).map Rec.ks).getD i [] = (l.map Rec.ks).getD i [] := by
        rw [List.map_append, List.getD_eq_getElem?_getD, List.getD_eq_getElem?_getD, List.getElem?_append_left (by simpa using hil)]
      rw [e1, e2]
      have hk := h3 i hil
      refine row_same hk (fun k hk' => ?_)
      rcases hk.2 with ⟨e, _⟩ | ⟨g, cap, cur, e, _, hg, _⟩
      · rw [e] at hk'
        cases hk'
      · rw [e] at hk'
        simp only [Value.ownBlock, Option.some.injEq] at hk'
        subst hk'
        exact g2.block g (Array.getElem?_eq_some_iff.1 hg).1 (fun e => row_apart h2 hg (by decide) g e.symm rfl)
    · have hie : i = l.length := by
        simp at hi
        omega
      subst hie
      have e1 : (ks ++ [Value.slice none 0 0]).getD l.length (.slice none 0 0) = .slice none 0 0 := by
        rw [List.getD_eq_getElem?_getD, List.getElem?_append_right (by omega), h1, Nat.sub_self]
        rfl
      have e2 : ((l ++ [r]).map Rec.ks).getD l.length [] = [] := by
        rw [List.map_append, List.getD_eq_getElem?_getD, List.getElem?_append_right (by simp), List.length_map, Nat.sub_self]
        simp [hr]
      rw [e1, e2]
      exact OwnI.nil _ _

/-- The row of the records has grown, and is stored. -/
theorem EnvF.grow {B : Nat} {w w' : World} {p : Nat} {a : EnvA} {s : St} {es : List Ev} {rs rs' : List Rec} (h : EnvF B w p a s es rs) {v' : Value} (hown : OwnR w' B v' rs') (hg : w.grownBy w' a.rv.ownBlock) :
    EnvF B (w'.setCell ⟨p, 19, none⟩ v') p { a with rv := v' } s es rs' ∧ Fr (p :: a.rv.ownBlock.toList) w (w'.setCell ⟨p, 19, none⟩ v') ∧ (w'.cell? ⟨p, 19, none⟩ = some a.rv ∧ w'.frozen? ⟨p, 19, none⟩ = false) := by
  obtain ⟨ks, _, h2, _⟩ := h.rc
  have hrow : ∀ (k : Nat) (cs : Array Value) (t : TypeId), w.heap[k]? = some (Obj.cells cs t (0, 0)) → t ≠ 119 → w'.heap[k]? = w.heap[k]? := by
    intro k cs t hk ht
    exact hg.block k (Array.getElem?_eq_some_iff.1 hk).1 (fun e => row_apart h2 hk (fun e' => ht e'.symm) k e.symm rfl)
  have hset : ∀ k, k ≠ p → (w'.setCell ⟨p, 19, none⟩ v').heap[k]? = w'.heap[k]? := fun k hk => Below.heap_setCell w' ⟨p, 19, none⟩ v' k hk
  have hb0 := h.m.blk.of_same (hrow p _ _ h.m.blk (by decide))
  have hblk := hb0.put 19 v'
  obtain ⟨cur, hcur, _⟩ := h.m.row.blk
  have hgne := h.m.ne
  obtain ⟨W0, e0, e1, e2⟩ := h.cf
  have hsz := e2.size
  have hfr1 : Fr a.rv.ownBlock.toList w w' := ⟨hg.os, hg.tape, hg.output, hg.size, fun k hk hn => hg.block k hk (fun e => hn (by simp [← e]))⟩
  have hfr2 : Fr (p :: a.rv.ownBlock.toList) w (w'.setCell ⟨p, 19, none⟩ v') := (hfr1.mono (fun k hk => List.mem_cons_of_mem _ hk)).setCell (.inl (by simp)) v'
  refine ⟨⟨⟨?_, (h.m.row.of_same ((hset a.g (fun e => hgne e.symm)).trans (hrow a.g _ _ hcur (by decide)))), h.m.small⟩, ?_, ?_, ⟨W0, e0, e1, ?_⟩, h.hp, h.hg⟩, hfr2, hb0.at_ 19, hb0.free 19⟩
  · simpa [ecells] using hblk
  · exact h.ev.same (fun k cs hk => (hset k (fun e => by
      subst e
      have hb2 := h.m.blk
      unfold Blk at hb2
      rw [hb2] at hk
      simp only [Option.some.injEq, Obj.cells.injEq] at hk
      exact absurd hk.2.1 (by decide))).trans (hrow k cs _ hk (by decide)))
  · exact hown.same (fun k cs t hk ht => hset k (fun e => by
      subst e
      unfold Blk at hb0
      rw [hb0] at hk
      simp only [Option.some.injEq, Obj.cells.injEq] at hk
      rcases ht with rfl | rfl
      · exact absurd hk.2.1 (by decide)
      · exact absurd hk.2.1 (by decide)))
  · refine e2.trans (hfr2.below (by omega) (fun k hk => ?_))
    simp only [List.mem_cons, Option.mem_toList] at hk
    rcases hk with rfl | hk
    · exact h.hp
    · exact (World.ownsRow.lt h2 k hk).1

theorem elevenAnd {w : World} {g : Nat} {c : Cfg} {pa sa : Option Addr} {pn pc sn sc : Nat} (h : Blk w g 28 (cc c pa pn pc sa sn sc)) : w.cell? ⟨g, 0, none⟩ = some (.int .i64 c.wo) ∧ w.cell? ⟨g, 1, none⟩ = some (.int .i64 c.le) ∧ w.cell? ⟨g, 2, none⟩ = some (.int .i64 c.cl) ∧ w.cell? ⟨g, 3, none⟩ = some (.int .i64 c.ta) ∧ w.cell? ⟨g, 4, none⟩ = some (.int .i64 c.de) ∧ w.cell? ⟨g, 5, none⟩ = some (.int .i64 c.he) ∧ w.cell? ⟨g, 6, none⟩ = some (.int .i64 c.ba) ∧ w.cell? ⟨g, 7, none⟩ = some (.int .i64 c.ag) ∧ w.cell? ⟨g, 8, none⟩ = some (.int .i64 c.pa) ∧ w.cell? ⟨g, 9, none⟩ = some (.slice pa pn pc) ∧ w.cell? ⟨g, 10, none⟩ = some (.slice sa sn sc) :=
  ⟨h.at_ 0, h.at_ 1, h.at_ 2, h.at_ 3, h.at_ 4, h.at_ 5, h.at_ 6, h.at_ 7, h.at_ 8, h.at_ 9, h.at_ 10⟩

/-- What New's environment holds besides its memory. -/
abbrev newA (c : Cfg) (pa : Option Addr) (pn pc : Nat) (sa : Option Addr) (sn sc g n : Nat) (rv : Value) : EnvA := ⟨c, pa, pn, pc, sa, sn, sc, g, n, 0, 0, rv, .slice none 0 0⟩
/-- The records of a new environment. -/
abbrev newRs (n : Nat) : List Rec := List.replicate n (freshR 0 (-1))
/-- What New gives. -/
def Newed8 (c : Cfg) (pa : Option Addr) (pn pc : Nat) (sa : Option Addr) (sn sc n t : Nat) (w : World) (e : Ending) (w' : World) : Prop :=
  ∃ p g rv, e = .returned (.pointer (some ⟨p, 0, none⟩)) ∧ EnvF w.heap.size w' p (newA c pa pn pc sa sn sc g n rv) (St.new n) [] (newRs t) ∧ Below w.heap.size w w'
/-- What its loop keeps. -/
def New8R (c : Cfg) (pa : Option Addr) (pn pc : Nat) (sa : Option Addr) (sn sc n t : Nat) (w : World) (p g : Nat) (i : Value) (wr : World) : Prop :=
  ∃ (j : Nat) (rv : Value), j ≤ t ∧ i = .int .i64 j ∧ EnvF w.heap.size wr p (newA c pa pn pc sa sn sc g n rv) (St.new n) [] (newRs j) ∧ Blk wr w.heap.size 28 (cc c pa pn pc sa sn sc) ∧ Below w.heap.size w wr

set_option maxRecDepth 100000 in
set_option maxHeartbeats 8000000 in
theorem rnew8_any {w : World} {c : Cfg} {pa : Option Addr} {pn pc : Nat} {sa : Option Addr} {sn sc : Nat} (hin : CfgIn c) (hl : Lists w 0 c pa pn sa sn) :
    Calls Tryz.prog 20 #[cv c pa pn pc sa sn sc] w (Newed8 c pa pn pc sa sn sc (rCells c).toNat c.ta.toNat w) := by
  have hcl := hin.cells
  have hta := hin.ta
  obtain ⟨n, hn⟩ : ∃ n : Nat, rCells c = (n : Int) := ⟨(rCells c).toNat, by omega⟩
  obtain ⟨t, ht⟩ : ∃ t : Nat, c.ta = (t : Int) := ⟨c.ta.toNat, by omega⟩
  have hsz : sizeS (rCells c) = n := by unfold sizeS; rw [if_neg (by omega), if_pos (by omega)]; omega
  rw [show (rCells c).toNat = n by omega, show c.ta.toNat = t by omega]
  have hb1 := below_one w (cbox c pa pn pc sa sn sc)
  have hX := Blk.made w 28 (cc c pa pn pc sa sn sc)
  have HX := Lib.hid hX
  have HB1 := Lib.hid hb1
  obtain ⟨R, hR⟩ : ∃ R, rCells c = R := ⟨_, rfl⟩
  have HCN := Lib.hid (show ∀ W : World, Calls Tryz.prog 40 #[cv c pa pn pc sa sn sc] W (fun e W' => e = .returned (.int .i64 R) ∧ Below W.heap.size W W') from fun W => hR ▸ rcells_any (w := W) (pa := pa) (sa := sa) (pn := pn) (pc := pc) (sn := sn) (sc := sc) hin)
  have HNW := Lib.hid (show ∀ W : World, Calls Tryz.prog 39 #[.int .i64 R] W (fun e W' => ∃ g, e = .returned (.agg #[.slice (some ⟨g, 0, none⟩) n n, .int .i64 0, .int .i64 0, .int .u64 0, .int .u64 0, .int .i64 0]) ∧ W.heap.size ≤ g ∧ Row W' g n n (List.replicate n 0) ∧ Below W.heap.size W W') from fun W => by
    rw [← hR]
    refine (rnew_any _ W).mono ?_
    rw [hsz]
    rintro e W' ⟨rfl, hrow, hb⟩
    exact ⟨_, rfl, by omega, hrow, hb⟩)
  have HLI := Lib.hid hl
  have HTA := Lib.hid (And.intro ht hta)
  have HN := Lib.hid (And.intro hn hcl)
  rw [ht] at hta
  clear hX hb1 hl hin hn hsz hcl hR ht
  go_enter Tryz.func20, Tryz.ntmps20
  go_wp2_with fail
  generalize w.alloc (cbox c pa pn pc sa sn sc) = W1 at *
  have HX2 := Lib.hid (show Blk W1.drew w.heap.size 28 (cc c pa pn pc sa sn sc) from HX.out)
  have q0 := elevenAnd HX2.out
  have HB2 := Lib.hid (show Below w.heap.size w W1.drew from below_drew HB1.out)
  go_region_held3 (fun w' => w'.cell? ⟨w.heap.size, 0, none⟩ = some (.int .i64 c.wo) ∧ w'.cell? ⟨w.heap.size, 1, none⟩ = some (.int .i64 c.le) ∧ w'.cell? ⟨w.heap.size, 2, none⟩ = some (.int .i64 c.cl) ∧ w'.cell? ⟨w.heap.size, 3, none⟩ = some (.int .i64 c.ta) ∧ w'.cell? ⟨w.heap.size, 4, none⟩ = some (.int .i64 c.de) ∧ w'.cell? ⟨w.heap.size, 5, none⟩ = some (.int .i64 c.he) ∧ w'.cell? ⟨w.heap.size, 6, none⟩ = some (.int .i64 c.ba) ∧ w'.cell? ⟨w.heap.size, 7, none⟩ = some (.int .i64 c.ag) ∧ w'.cell? ⟨w.heap.size, 8, none⟩ = some (.int .i64 c.pa) ∧ w'.cell? ⟨w.heap.size, 9, none⟩ = some (.slice pa pn pc) ∧ w'.cell? ⟨w.heap.size, 10, none⟩ = some (.slice sa sn sc)) ((first | exact q2 | exact q1 | exact q0 | go_keep))
    (first
     | (go_at_call 40
        with_reducible refine (HCN.out _).mono ?_
        rintro e W3 ⟨rfl, hb3⟩
        have HX3 := Lib.hid (HX2.out.below hb3)
        have HB3 := Lib.hid (HB2.out.trans (hb3.mono HB2.out.size))
        have q1 := elevenAnd HX3.out)
     | (go_at_call 39
        with_reducible refine (HNW.out _).mono ?_
        rintro e W4 ⟨g, rfl, hgs, hrow, hb4⟩
        have HX4 := Lib.hid (HX3.out.below hb4)
        have HB4 := Lib.hid (HB3.out.trans (hb4.mono HB3.out.size))
        have q2 := elevenAnd HX4.out))
  go_wp2_with fail
  have hst : New8R c pa pn pc sa sn sc n t w W4.heap.size g (.int .i64 0) (W4.alloc (.cells (ecells (newA c pa pn pc sa sn sc g n (.slice none 0 0)) (St.new n)) 53)) := by
    have hb5 := below_one W4 (.cells (ecells (newA c pa pn pc sa sn sc g n (.slice none 0 0)) (St.new n)) 53)
    have hs4 := HB4.out.size
    have hs3 := HB3.out.size
    have hlen : (St.new n).X.length = n := by simp [St.new]
    refine ⟨0, .slice none 0 0, by omega, rfl, ⟨⟨Blk.made _ _ _, ?_, ?_⟩, World.ownsRow_nil _ _ _ _, ⟨[], rfl, World.ownsRow_nil _ _ _ _, fun i hi => by simp [newRs] at hi⟩, ⟨w, rfl, HLI.out, HB4.out.trans (hb5.mono hs4)⟩, by omega, by show w.heap.size ≤ g; omega⟩, HX4.out.below hb5, HB4.out.trans (hb5.mono hs4)⟩
    · rw [hlen]
      exact hrow.of_same (Below.heap_alloc W4 _ _ hrow.lt)
    · rw [hlen]
      have := HN.out
      omega
  have HST := Lib.hid hst
  have hWE : ecells (newA c pa pn pc sa sn sc g n (.slice none 0 0)) (St.new n) = ecells (newA c pa pn pc sa sn sc g n (.slice none 0 0)) (St.new n) := rfl
  clear q0 q1 q2 hst hWE HX4 HX3 HX2 HB4 HB3 HB2 HB1 HX hrow hb3 hb4 hgs
  generalize W4.heap.size = p at *
  go_loopw [4] (fun i wr => New8R c pa pn pc sa sn sc n t w p g i wr) (fun i _ => t - (intOf i).toNat)
  case atStart =>
    have h := HST.out
    simp only [ecells, St.new, List.length_replicate] at h
    exact h
  case round =>
    clear HST
    obtain ⟨j, rv, hj, rfl, he, hbx, hbl⟩ := hrel
    have e3 : wr.cell? ⟨w.heap.size, 3, none⟩ = some (.int .i64 (t : Int)) := by
      have := hbx.at_ 3
      rw [← HTA.out.1]
      exact this
    by_cases hlt : j < t
    · obtain ⟨x, xc, hv⟩ := he.rc.form
      have hlr : (newRs j).length = j := by simp [newRs]
      rw [hlr] at hv
      have hpl := he.m.blk.lt
      have hB : w.heap.size ≤ wr.heap.size := hbl.size
      have k0 : wr.drew.cell? ⟨p, 19, none⟩ = some (.slice x j xc) := by rw [← hv]; exact he.m.blk.at_ 19
      have HE := Lib.hid he
      have HBX := Lib.hid hbx
      have HBL := Lib.hid hbl
      have HV := Lib.hid hv
      have HLR := Lib.hid hlr
      have HALL := Lib.hid (show ∀ W : World, Below wr.heap.size wr W → W.cell? ⟨p, 19, none⟩ = some (.slice x j xc) ∧ (W.alloc (.cells (freshV 0 (-1)) 119)).cell? ⟨p, 19, none⟩ = some (.slice x j xc) ∧
          OwnR (W.alloc (.cells (freshV 0 (-1)) 119)) w.heap.size (.slice x j xc) (newRs j) ∧ NewCells (W.alloc (.cells (freshV 0 (-1)) 119)) ⟨W.heap.size, 0, none⟩ (freshR 0 (-1)) ∧ w.heap.size ≤ (W.alloc (.cells (freshV 0 (-1)) 119)).heap.size by
        intro W hW
        have h1 := (he.below hW).m.blk.at_ 19
        have hb2 := below_one W (.cells (freshV 0 (-1)) 119)
        have h2 := ((he.below hW).below hb2).m.blk.at_ 19
        have h3 := ((he.below hW).below hb2).rc
        have hs := hW.size
        have hs2 := hb2.size
        rw [← hv]
        exact ⟨h1, h2, h3, newCells W 0 (-1), by omega⟩)
      have HJN := Lib.hid (show (newRs j).length + 1 ≤ 1000000 by rw [hlr]; have := HTA.out; omega)
      have hap : newRs j ++ [freshR 0 (-1)] = newRs (j + 1) := by unfold newRs; rw [List.replicate_succ']
      have HGR := Lib.hid (show ∀ (W : World) (v4 : Value) (w4 : World), Below wr.heap.size wr W → OwnR w4 w.heap.size v4 (newRs j ++ [freshR 0 (-1)]) → (W.alloc (.cells (freshV 0 (-1)) 119)).grownBy w4 (Value.ownBlock (.slice x j xc)) →
          New8R c pa pn pc sa sn sc n t w p g (.int .i64 ((j + 1 : Nat) : Int)) (w4.setCell ⟨p, 19, none⟩ v4) ∧ (w4.cell? ⟨p, 19, none⟩ = some (.slice x j xc) ∧ w4.frozen? ⟨p, 19, none⟩ = false) ∧ ∃ va vc, v4 = .slice va (j + 1) vc by
        intro W v4 w4 hW hown hg
        have hb2 := below_one W (.cells (freshV 0 (-1)) 119)
        have h1 := (he.below hW).below hb2
        rw [← hv] at hg
        rw [hap] at hown
        obtain ⟨q1, q2, q3⟩ := h1.grow hown hg
        obtain ⟨va, vc, hvf⟩ := hown.form
        have hl1 : (newRs (j + 1)).length = j + 1 := by simp [newRs]
        rw [hl1] at hvf
        have hbx2 := (hbx.below hW).below hb2
        have hw1 := hW.size
        have hw2 := hb2.size
        have hpb : p ≠ w.heap.size := he.m.blk.apart hbx (by decide)
        have hrp : w.heap.size ∉ p :: rv.ownBlock.toList := by
          simp only [List.mem_cons, not_or]
          refine ⟨fun e => hpb e.symm, fun hm => ?_⟩
          obtain ⟨ks, _, h2, _⟩ := h1.rc
          exact row_apart h2 hbx2 (by decide) w.heap.size (by simpa using hm) rfl
        have hbl2 := (hbl.trans (hW.mono hbl.size)).trans (hb2.mono (by omega))
        refine ⟨⟨j + 1, v4, by omega, rfl, q1, hbx2.of_same (q2.block _ hbx2.lt hrp), hbl2.trans (q2.below (by omega) (fun k hk => ?_))⟩, by rw [← hv]; exact q3, va, vc, hvf⟩
        simp only [List.mem_cons, Option.mem_toList] at hk
        rcases hk with rfl | hk
        · exact he.hp
        · obtain ⟨ks, _, h2, _⟩ := h1.rc
          exact (World.ownsRow.lt h2 k hk).1)
      clear he hbx hbl hv hlr hap
      go_wp2_with fail
      go_region_law (first
        | (refine step_appR rfl _ _ rfl rfl HO.out rfl rfl H5.out HJN.out HB9.out ?_
           intro v4 w4 hown4 hg4
           obtain ⟨g1, ⟨k19, f19⟩, va, vc, hv4⟩ := HGR.out W6 v4 w4 HW6.out hown4 hg4
           have HG1 := Lib.hid g1
           rw [hv4]
           rw [hv4] at HG1
           clear hown4 hg4 hv4 g1)
        | (go_simp
           go_at_call 41
           refine (fresh_any 0 (-1) _).mono ?_
           rintro e W6 ⟨rfl, hb6⟩
           have hb6' : Below wr.heap.size wr W6 := (below_drew (Below.refl _ _)).trans hb6
           obtain ⟨k1, k2, h3, h4, h5⟩ := HALL.out W6 hb6'
           have HO := Lib.hid h3
           have H5 := Lib.hid h4
           have HB9 := Lib.hid h5
           have HW6 := Lib.hid hb6'
           clear hb6 hb6' h3 h4 h5))
      all_goals go_wp2_with fail
      all_goals
        go_roundw
        case rel =>
          have h := HG1.out
          rw [show ((j + 1 : Nat) : Int) = (j : Int) + 1 by omega] at h
          exact h
        case measure => simp [intOf]; omega
    · obtain rfl : j = t := by omega
      have HE := Lib.hid he
      have HBL := Lib.hid hbl
      clear he hbl hbx
      go_wp2
      go_ret
      exact ⟨p, g, rv, rfl, HE.out, HBL.out⟩
end Go.Proofs.YtanbjdlaolgepaaGreat
