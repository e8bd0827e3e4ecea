/-
  The reference's New of an engine.
-/
import Derived.Test.YtanbjdlaolgepaaGreatMgAI
import Derived.Test.YtanbjdlaolgepaaGreatNew8
import Derived.Test.YtanbjdlaolgepaaGreatMgAK
namespace Go.Proofs.YtanbjdlaolgepaaGreat
open Go Go.RowKit
set_option linter.unusedSimpArgs false
set_option linter.unusedVariables false

/-- A worker's frame and the client's at their first lines. -/
abbrev fraWk (a j : Int) : Fra := { fra1 25 0 0 0 0 a with fj := j }
abbrev fraCl : Fra := fra1 26 0 0 0 0 0
/-- The frames of the first k workers. -/
def engF (ta k : Nat) : List Fra := (List.range k).map fun (a : Nat) => fraWk (a : Int) ((a % ta : Nat) : Int)
theorem engF_len (ta k : Nat) : (engF ta k).length = k := by simp [engF]
theorem engF_succ (ta k : Nat) : engF ta (k + 1) = engF ta k ++ [fraWk k ((k % ta : Nat) : Int)] := by
  unfold engF
  rw [List.range_succ, List.map_append]
  rfl
/-- What New gives. -/
def Newed28 (c : Cfg) (pa : Option Addr) (pn pc : Nat) (sa : Option Addr) (sn sc n t k : Nat) (w : World) (e : Ending) (w' : World) : Prop :=
  ∃ x q g rv mv ys, e = .returned (.pointer (some ⟨x, 0, none⟩)) ∧ EnvF w.heap.size w' q (newA c pa pn pc sa sn sc g n rv) (St.new n) [] (newRs t) ∧ EngP w' w.heap.size x q mv ys (engF t k ++ [fraCl]) ∧ w.heap.size ≤ x ∧ Below w.heap.size w w'
/-- What its loop keeps. -/
def New28R (c : Cfg) (pa : Option Addr) (pn pc : Nat) (sa : Option Addr) (sn sc n t k : Nat) (w : World) (x q g : Nat) (rv : Value) (i : Value) (wr : World) : Prop :=
  ∃ (j : Nat) (mv : Value) (ys : List (Nat × Nat × Nat)), j ≤ k ∧ i = .int .i64 j ∧ EnvF w.heap.size wr q (newA c pa pn pc sa sn sc g n rv) (St.new n) [] (newRs t) ∧ EngP wr w.heap.size x q mv ys (engF t j) ∧ Blk wr w.heap.size 28 (cc c pa pn pc sa sn sc) ∧ w.heap.size ≤ x ∧ Below w.heap.size w wr
/-- The environment of an engine while its list of machines grows. -/
theorem EnvF.grownP {B : Nat} {w w' : World} {p x : Nat} {a : EnvA} {s : St} {es : List Ev} {rs : List Rec} {mv : Value} {R : List (List Value)} {cx : Array Value} (h : EnvF B w p a s es rs) (hown : OwnG w B 59 1 mv R) (hx : Blk w x 82 cx) (hxB : B ≤ x) (hf : Fr (x :: mv.ownBlock.toList) w w') : EnvF B w' p a s es rs := by
  have hne : ∀ (k : Nat) (cs : Array Value) (t : TypeId), w.heap[k]? = some (Obj.cells cs t (0, 0)) → t ≠ 59 → t ≠ 82 → w'.heap[k]? = w.heap[k]? := by
    intro k cs t hk h1 h2
    refine hf.block k (Array.getElem?_eq_some_iff.1 hk).1 (fun hm => ?_)
    simp only [List.mem_cons, Option.mem_toList] at hm
    rcases hm with rfl | hm
    · exact h2 (ty_at hx hk).symm
    · exact row_apart hown.2 hk (fun e => h1 e.symm) k hm rfl
  obtain ⟨cur, hc, _⟩ := h.m.row.blk
  obtain ⟨W0, e0, e1, e2⟩ := h.cf
  have hsz := e2.size
  refine ⟨h.m.of_same (hne p _ _ h.m.blk (by decide) (by decide)) (hne a.g _ _ hc (by decide) (by decide)), h.ev.same (fun k cs hk => hne k cs _ hk (by decide) (by decide)), h.rc.same (fun k cs t hk ht => hne k cs t hk (by rcases ht with rfl | rfl <;> decide) (by rcases ht with rfl | rfl <;> decide)), ⟨W0, e0, e1, e2.trans (hf.below (by omega) (fun k hk => ?_))⟩, h.hp, h.hg⟩
  simp only [List.mem_cons, Option.mem_toList] at hk
  rcases hk with rfl | hk
  · exact hxB
  · exact (hown.lt k hk).1

set_option maxRecDepth 100000 in
set_option maxHeartbeats 8000000 in
theorem rnew28_any {w : World} {c : Cfg} {pa : Option Addr} {pn pc : Nat} {sa : Option Addr} {sn sc : Nat} (hin : CfgIn c) (hl : Lists w 0 c pa pn sa sn) :
    Calls Tryz.prog 37 #[cv c pa pn pc sa sn sc] w (Newed28 c pa pn pc sa sn sc (rCells c).toNat c.ta.toNat c.wo.toNat w) := by
  have hwo := hin.wo
  have hta := hin.ta
  obtain ⟨k, hk⟩ : ∃ k : Nat, c.wo = (k : Int) := ⟨c.wo.toNat, by omega⟩
  obtain ⟨t, ht⟩ : ∃ t : Nat, c.ta = (t : Int) := ⟨c.ta.toNat, by omega⟩
  obtain ⟨n, hn⟩ : ∃ n : Nat, (rCells c).toNat = n := ⟨_, rfl⟩
  rw [show c.wo.toNat = k by omega, show c.ta.toNat = t by omega, hn]
  have hX := Blk.made w 28 (cc c pa pn pc sa sn sc)
  have hb1 := below_one w (cbox c pa pn pc sa sn sc)
  have HNW := Lib.hid (show ∀ W : World, Below w.heap.size w W → Calls Tryz.prog 20 #[cv c pa pn pc sa sn sc] W (fun e W' => ∃ q g rv, e = .returned (.pointer (some ⟨q, 0, none⟩)) ∧ EnvF w.heap.size W' q (newA c pa pn pc sa sn sc g n rv) (St.new n) [] (newRs t) ∧ Below W.heap.size W W') from fun W hW => by
    refine (rnew8_any (w := W) (pc := pc) (sc := sc) hin (hl.below hW)).mono ?_
    rintro e W' ⟨q, g, rv, rfl, he, hb⟩
    rw [hn, show c.ta.toNat = t by omega] at he
    exact ⟨q, g, rv, rfl, he.low hW.size (W0 := w) rfl hl (hW.trans (hb.mono hW.size)), hb⟩)
  have HX := Lib.hid hX
  have HB1 := Lib.hid hb1
  have HK := Lib.hid (And.intro hk (And.intro ht (show (k : Int) ≤ 64 ∧ 1 ≤ (t : Int) ∧ (t : Int) ≤ 1000000 by omega)))
  have x0 : (w.alloc (cbox c pa pn pc sa sn sc)).cell? ⟨w.heap.size, 0, none⟩ = some (.int .i64 c.wo) := hX.at_ 0
  obtain ⟨e0, e1, e2, e3, e4, e5, e6, e7, e8, e9, e10⟩ := eleven hX
  clear hX hb1 hin hl hn hwo hta x0 hk ht
  go_enter Tryz.func37, Tryz.ntmps37
  go_wp2_with fail
  (with_reducible refine (HNW.out _ HB1.out).mono ?_)
  rintro e w2 ⟨q, g, rv, rfl, he, hb2⟩
  clear e0 e1 e2 e3 e4 e5 e6 e7 e8 e9 e10
  have HX2 := Lib.hid (HX.out.below hb2)
  have HB2 := Lib.hid (HB1.out.trans (hb2.mono HB1.out.size))
  have HE2 := Lib.hid he
  clear he hb2 HNW HX HB1
  go_upto_region 2 with fail
  have hb3 := below_one w2 (.cells (engcells q (.slice none 0 0)).toArray 82)
  have HST := Lib.hid (show New28R c pa pn pc sa sn sc n t k w w2.heap.size q g rv (.int .i64 0) (w2.alloc (.cells (engcells q (.slice none 0 0)).toArray 82)) from
    ⟨0, .slice none 0 0, [], Nat.zero_le _, rfl, HE2.out.below hb3, ⟨Blk.made _ _ _, OwnG.nil _ _ _ _, rfl, fun i hi => by simp [engF] at hi, by simp, by simp⟩, HX2.out.below hb3, HB2.out.size, HB2.out.trans (hb3.mono HB2.out.size)⟩)
  clear HE2 HX2 HB2 hb3
  generalize w2.heap.size = x at *
  change Code.wp _ _ _ _ (w2.alloc (.cells (engcells q (.slice none 0 0)).toArray 82))
  generalize w2.alloc (.cells (engcells q (.slice none 0 0)).toArray 82) = W3 at *
  go_wp2_with fail
  go_loopw [4] (fun i wr => New28R c pa pn pc sa sn sc n t k w x q g rv i wr) (fun i _ => k - (intOf i).toNat)
  case atStart => exact HST.out
  case round =>
    clear HST
    obtain ⟨j, mv, ys, hj, rfl, he, hp, hbx, hxB, hbl⟩ := hrel
    have e0 : wr.cell? ⟨w.heap.size, 0, none⟩ = some (.int .i64 (k : Int)) := by
      have := hbx.at_ 0
      rw [← HK.out.1]
      exact this
    have HALL := Lib.hid (show ∀ W : World, Below wr.heap.size wr W → (W.cell? ⟨x, 1, none⟩ = some mv ∧ W.cell? ⟨w.heap.size, 3, none⟩ = some (.int .i64 (t : Int))) ∧ EngP W w.heap.size x q mv ys (engF t j) from fun W hW => by
      have h1 := hp.below hW
      refine ⟨⟨h1.blk.at_ 1, ?_⟩, h1⟩
      have := (hbx.below hW).at_ 3
      rw [← HK.out.2.1]
      exact this)
    have HGR := Lib.hid (show ∀ (W : World) (y gy cy : Nat) (f : Fra) (v4 : Value) (w4 : World), Below wr.heap.size wr W → Mach1 wr.heap.size W y gy cy [] f → OwnG w4 w.heap.size 59 1 v4 ((ys.map fun y => ptrR y.1) ++ [ptrR y]) → (W.alloc (.cells (ptrR y).toArray 59)).grownBy w4 mv.ownBlock →
        (∃ ys', EnvF w.heap.size (w4.setCell ⟨x, 1, none⟩ v4) q (newA c pa pn pc sa sn sc g n rv) (St.new n) [] (newRs t) ∧ EngP (w4.setCell ⟨x, 1, none⟩ v4) w.heap.size x q v4 ys' (engF t j ++ [f]) ∧ Blk (w4.setCell ⟨x, 1, none⟩ v4) w.heap.size 28 (cc c pa pn pc sa sn sc) ∧ Below w.heap.size w (w4.setCell ⟨x, 1, none⟩ v4)) ∧ (w4.cell? ⟨x, 1, none⟩ = some mv ∧ w4.frozen? ⟨x, 1, none⟩ = false) ∧ ∃ va vc, v4 = .slice va (j + 1) vc from fun W y gy cy f v4 w4 hW hm hown hg => by
      have hb2 := below_one W (.cells (ptrR y).toArray 59)
      have hW2 := hW.trans (hb2.mono hW.size)
      have h1 := hp.below hW2
      have hsz := hbl.size
      have hm' : Mach1 w.heap.size W y gy cy [] f := ⟨hm.blk, hm.fr, Nat.le_trans hsz hm.bm, Nat.le_trans hsz hm.bg, hm.hc⟩
      have hm2 := hm'.same (hb2.block _ hm.blk.lt) (hb2.block _ hm.fr.blk.lt)
      have hlen := hp.len
      have hgen : ∀ i, i < ys.length → (ys.getD i (0, 0, 0)).1 < wr.heap.size ∧ (ys.getD i (0, 0, 0)).2.1 < wr.heap.size := fun i hi => by
        have := hp.mac i (by omega)
        exact ⟨this.blk.lt, this.fr.blk.lt⟩
      obtain ⟨q1, q2, q3⟩ := h1.more hown hg hm2 (fun i hi => by have := (hgen i hi).1; have := hm.bm; omega) (fun i hi => by have := (hgen i hi).2; have := hm.bg; omega)
      obtain ⟨va, vc, hvf, _⟩ := hown.form
      have hrl : ((ys.map fun y => ptrR y.1) ++ [ptrR y]).length = j + 1 := by
        rw [List.length_append, hp.rows, engF_len]
        rfl
      rw [hrl] at hvf
      have hbx2 := hbx.below hW2
      have hrp : w.heap.size ∉ x :: mv.ownBlock.toList := by
        simp only [List.mem_cons, Option.mem_toList, not_or]
        exact ⟨hbx2.apart h1.blk (by decide), fun hm => row_apart h1.own.2 hbx2 (by decide) w.heap.size hm rfl⟩
      have hbw := hbl.trans (hW2.mono hsz)
      refine ⟨⟨_, (he.below hW2).grownP h1.own h1.blk hxB q3, q1, hbx2.of_same (q3.block _ hbx2.lt hrp), hbw.trans (q3.below hbw.size (fun z hz => ?_))⟩, q2, va, vc, hvf⟩
      simp only [List.mem_cons, Option.mem_toList] at hz
      rcases hz with rfl | hz
      · exact hxB
      · exact (h1.own.lt z hz).1)
    have HFIN := Lib.hid (show ∀ W : World, Below wr.heap.size wr W → ∃ va vc, mv = .slice va j vc from fun W hW => by
      obtain ⟨va, vc, hvf, _⟩ := hp.own.form
      rw [hp.rows, engF_len] at hvf
      exact ⟨va, vc, hvf⟩)
    obtain ⟨va, vc, hmv⟩ := HFIN.out wr (Below.refl _ _)
    subst hmv
    have HE := Lib.hid he
    have HP := Lib.hid hp
    have HBL := Lib.hid (And.intro hbl hxB)
    have HBX := Lib.hid hbx
    clear he hp hbx hxB hbl HFIN
    have ej : wrap64 ((j : Int) + 1) = ((j + 1 : Nat) : Int) := by have := HK.out; unfold wrap64; omega
    have HCB := Lib.hid (show Blk wr w.heap.size 28 (cc c pa pn pc sa sn sc) from HBX.out)
    by_cases hlt : j < k
    case neg =>
      obtain rfl : j = k := by omega
      have HMK := Lib.hid (fun V : World => make_any { fraCl with ln := 0 } V rfl)
      go_upto_region 6 with fail
      clear e0
      have HWD := Lib.hid (show Below wr.heap.size wr wr.drew from below_drew (Below.refl _ _))
      have HSD := Lib.hid (HALL.out wr.drew HWD.out).1
      refine wp_region_held_drew (S := (fun u => u.cell? ⟨w.heap.size, 3, none⟩ = some (.int .i64 (t : Int)))) (by kernel_rfl) HSD.out.2 (fun _ => ?_)
      change wpAnyH _ _ _ _ _ 12 #[false, false, false, false, false, false, false, false, false, false, false, false] _ (World.drew _)
      refine wpAnyH_take (i := 0) (v := .pointer (some ⟨x, 0, none⟩)) rfl (by kernel_rfl) (by kernel_rfl) (by kernel_rfl) (fun _ _ _ h => h) (Or.inl ⟨by rfl, fun u hu => by (go_simp)⟩) HSD.out.2 ?_
      simp only [List.getElem_toArray, List.getElem_cons_succ, List.getElem_cons_zero, Act.put, List.setIfInBounds_toArray, List.set_cons_zero, List.set_cons_succ]
      refine wpAnyH_take (i := 1) (v := .pointer (some ⟨x, 0, none⟩)) rfl (by kernel_rfl) (by kernel_rfl) (by kernel_rfl) (fun _ _ _ h => h) (Or.inl ⟨by rfl, fun u hu => by (go_simp)⟩) HSD.out.2 ?_
      simp only [List.getElem_toArray, List.getElem_cons_succ, List.getElem_cons_zero, Act.put, List.setIfInBounds_toArray, List.set_cons_zero, List.set_cons_succ]
      refine wpAnyH_take (i := 2) (v := .pointer (some ⟨x, 0, none⟩)) rfl (by kernel_rfl) (by kernel_rfl) (by kernel_rfl) (fun _ _ _ h => h) (Or.inl ⟨by rfl, fun u hu => by (go_simp)⟩) HSD.out.2 ?_
      simp only [List.getElem_toArray, List.getElem_cons_succ, List.getElem_cons_zero, Act.put, List.setIfInBounds_toArray, List.set_cons_zero, List.set_cons_succ]
      refine wpAnyH_take (i := 3) (v := .pointer (some ⟨x, 1, none⟩)) rfl (by kernel_rfl) (by kernel_rfl) (by kernel_rfl) (fun _ _ _ h => h) (Or.inl ⟨by rfl, fun u hu => by (go_simp)⟩) HSD.out.2 ?_
      simp only [List.getElem_toArray, List.getElem_cons_succ, List.getElem_cons_zero, Act.put, List.setIfInBounds_toArray, List.set_cons_zero, List.set_cons_succ]
      refine wpAnyH_take (i := 5) (v := .agg #[.int .i64 26, .int .i64 0, .int .i64 0, .int .i64 0, .int .i64 0, .int .i64 0, .int .i64 0, .int .i64 0, .int .i64 0, .int .i64 0, .int .i64 0, .int .i64 0, .int .i64 0, .int .u64 0, .int .u64 0, .int .u64 0, .int .u64 0, .slice none 0 0]) rfl (by kernel_rfl) (by kernel_rfl) (by kernel_rfl) (fun _ _ _ h => h) (Or.inl ⟨by rfl, fun u hu => by (go_simp)⟩) HSD.out.2 ?_
      simp only [List.getElem_toArray, List.getElem_cons_succ, List.getElem_cons_zero, Act.put, List.setIfInBounds_toArray, List.set_cons_zero, List.set_cons_succ]
      refine wpAnyH_ready (rs := [4, 6]) (by kernel_rfl) (by simp) ?_
      refine AllReadyH.cons rfl (fun KK hK => ?_) (AllReadyH.cons rfl (fun KK hK => ?_) AllReadyH.nil)
      · have c1 := HSD.out.1
        go_simp
        refine hK.out _ _ HSD.out.2 (fun _ => ?_)
        clear hK KK
        simp only [List.setIfInBounds_toArray, List.set_cons_zero, List.set_cons_succ]
        clear c1
        refine wpAnyH_ready (rs := [6]) (by kernel_rfl) (by simp) ?_
        refine AllReadyH.cons rfl (fun KK hK => ?_) AllReadyH.nil
        go_simp
        go_at_call 14
        (with_reducible refine (HMK.out _).mono ?_)
        rintro e W6 ⟨y6, gy6, cy6, rfl, hm6, hb6⟩
        have hb6' : Below wr.heap.size wr W6 := HWD.out.trans hb6
        have hb7 := below_one W6 (.cells (ptrR y6).toArray 59)
        have HS6 := Lib.hid (HALL.out W6 hb6').1
        have hs7 := HALL.out (W6.alloc (.cells (ptrR y6).toArray 59)) (hb6'.trans (hb7.mono hb6'.size))
        have HS7 := Lib.hid hs7.1
        have HO := Lib.hid hs7.2.own
        have H5 := Lib.hid (made_row1 (Blk.made W6 59 (ptrR y6).toArray))
        have HJN := Lib.hid (show (ys.map fun y => ptrR y.1).length + 1 ≤ 1000000 by rw [HP.out.rows, engF_len]; have := HK.out; omega)
        have HB9 := Lib.hid (show w.heap.size ≤ (W6.alloc (.cells (ptrR y6).toArray 59)).heap.size from Nat.le_trans (Nat.le_trans HBL.out.1.size hb6'.size) hb7.size)
        have HW6 := Lib.hid hb6'
        have HM6 := Lib.hid (show Mach1 wr.heap.size W6 y6 gy6 cy6 [] fraCl from hm6)
        clear hb6 hb6' hb7 hs7 hm6
        refine hK.out _ _ HS6.out.2 (fun _ => ?_)
        clear hK KK
        simp only [List.setIfInBounds_toArray, List.set_cons_zero, List.set_cons_succ]
        refine wpAnyH_ready (rs := [7]) (by kernel_rfl) (by simp) ?_
        refine AllReadyH.cons rfl (fun KK hK => ?_) AllReadyH.nil
        go_simp
        refine hK.out _ _ HS7.out.2 (fun _ => ?_)
        clear hK KK
        simp only [List.setIfInBounds_toArray, List.set_cons_zero, List.set_cons_succ]
        refine wpAnyH_ready (rs := [8]) (by kernel_rfl) (by simp) ?_
        refine AllReadyH.cons rfl (fun KK hK => ?_) AllReadyH.nil
        refine wp_appP (.tmp 35) (.tmp 38) rfl rfl HO.out rfl H5.out HJN.out HB9.out ?_
        intro v4 w4 hown4 hg4
        obtain ⟨g1, ⟨k19, f19⟩, va4, vc4, hv4⟩ := HGR.out W6 y6 gy6 cy6 _ v4 w4 HW6.out HM6.out hown4 hg4
        have hc9 : Blk (W6.alloc (.cells (ptrR y6).toArray 59)) w.heap.size 28 (cc c pa pn pc sa sn sc) := HCB.out.below (HW6.out.trans ((below_one W6 _).mono HW6.out.size))
        have e9 := hg4.block w.heap.size hc9.lt (fun e => row_apart HO.out.2 hc9 (by decide) w.heap.size e.symm rfl)
        have hx9 : x ≠ w.heap.size := HP.out.blk.apart HBX.out (by decide)
        have hc10 := hc9.of_same e9
        have K33 := Lib.hid (show w4.cell? ⟨w.heap.size, 3, none⟩ = some (.int .i64 (t : Int)) by rw [World.cell?_of_block e9]; exact HS7.out.2)
        have K34 := Lib.hid (show (w4.setCell ⟨x, 1, none⟩ v4).cell? ⟨w.heap.size, 3, none⟩ = some (.int .i64 (t : Int)) by
          rw [World.cell?_of_block (Below.heap_setCell w4 ⟨x, 1, none⟩ v4 w.heap.size (Ne.symm hx9))]
          exact K33.out)
        have HG1 := Lib.hid g1
        subst hv4
        clear hown4 hg4 g1 hc9 e9 hc10 hx9
        refine hK.out _ _ K33.out (fun _ => ?_)
        clear hK KK
        simp only [List.getElem_toArray, List.getElem_cons_succ, List.getElem_cons_zero, Act.put, List.setIfInBounds_toArray, List.set_cons_zero, List.set_cons_succ]
        refine wpAnyH_take (i := 9) (v := .pointer (some ⟨x, 0, none⟩)) rfl (by kernel_rfl) (by kernel_rfl) (by kernel_rfl) (fun _ _ _ h => h) (Or.inl ⟨by rfl, fun u hu => by (go_simp)⟩) K33.out ?_
        simp only [List.getElem_toArray, List.getElem_cons_succ, List.getElem_cons_zero, Act.put, List.setIfInBounds_toArray, List.set_cons_zero, List.set_cons_succ]
        refine wpAnyH_take (i := 10) (v := .pointer (some ⟨x, 1, none⟩)) rfl (by kernel_rfl) (by kernel_rfl) (by kernel_rfl) (fun _ _ _ h => h) (Or.inl ⟨by rfl, fun u hu => by (go_simp)⟩) K33.out ?_
        simp only [List.getElem_toArray, List.getElem_cons_succ, List.getElem_cons_zero, Act.put, List.setIfInBounds_toArray, List.set_cons_zero, List.set_cons_succ]
        refine wpAnyH_ready (rs := [11]) (by kernel_rfl) (by simp) ?_
        refine AllReadyH.cons rfl (fun KK hK => ?_) AllReadyH.nil
        go_simp
        refine hK.out _ _ K34.out (fun _ => ?_)
        clear hK KK
        simp only [List.setIfInBounds_toArray, List.set_cons_zero, List.set_cons_succ]
        refine wpAnyH_done (by kernel_rfl) ?_ _
        go_wp2
        go_ret
        obtain ⟨ys', z1, z2, z3, z4⟩ := HG1.out
        exact ⟨x, q, g, rv, .slice va4 (j + 1) vc4, ys', rfl, z1, z2, HBL.out.2, z4⟩
      · go_simp
        go_at_call 14
        (with_reducible refine (HMK.out _).mono ?_)
        rintro e W6 ⟨y6, gy6, cy6, rfl, hm6, hb6⟩
        have hb6' : Below wr.heap.size wr W6 := HWD.out.trans hb6
        have hb7 := below_one W6 (.cells (ptrR y6).toArray 59)
        have HS6 := Lib.hid (HALL.out W6 hb6').1
        have hs7 := HALL.out (W6.alloc (.cells (ptrR y6).toArray 59)) (hb6'.trans (hb7.mono hb6'.size))
        have HS7 := Lib.hid hs7.1
        have HO := Lib.hid hs7.2.own
        have H5 := Lib.hid (made_row1 (Blk.made W6 59 (ptrR y6).toArray))
        have HJN := Lib.hid (show (ys.map fun y => ptrR y.1).length + 1 ≤ 1000000 by rw [HP.out.rows, engF_len]; have := HK.out; omega)
        have HB9 := Lib.hid (show w.heap.size ≤ (W6.alloc (.cells (ptrR y6).toArray 59)).heap.size from Nat.le_trans (Nat.le_trans HBL.out.1.size hb6'.size) hb7.size)
        have HW6 := Lib.hid hb6'
        have HM6 := Lib.hid (show Mach1 wr.heap.size W6 y6 gy6 cy6 [] fraCl from hm6)
        clear hb6 hb6' hb7 hs7 hm6
        refine hK.out _ _ HS6.out.2 (fun _ => ?_)
        clear hK KK
        simp only [List.setIfInBounds_toArray, List.set_cons_zero, List.set_cons_succ]
        refine wpAnyH_ready (rs := [4, 7]) (by kernel_rfl) (by simp) ?_
        refine AllReadyH.cons rfl (fun KK hK => ?_) (AllReadyH.cons rfl (fun KK hK => ?_) AllReadyH.nil)
        · have c1 := HS6.out.1
          go_simp
          refine hK.out _ _ HS6.out.2 (fun _ => ?_)
          clear hK KK
          simp only [List.setIfInBounds_toArray, List.set_cons_zero, List.set_cons_succ]
          clear c1
          refine wpAnyH_ready (rs := [7]) (by kernel_rfl) (by simp) ?_
          refine AllReadyH.cons rfl (fun KK hK => ?_) AllReadyH.nil
          go_simp
          refine hK.out _ _ HS7.out.2 (fun _ => ?_)
          clear hK KK
          simp only [List.setIfInBounds_toArray, List.set_cons_zero, List.set_cons_succ]
          refine wpAnyH_ready (rs := [8]) (by kernel_rfl) (by simp) ?_
          refine AllReadyH.cons rfl (fun KK hK => ?_) AllReadyH.nil
          refine wp_appP (.tmp 35) (.tmp 38) rfl rfl HO.out rfl H5.out HJN.out HB9.out ?_
          intro v4 w4 hown4 hg4
          obtain ⟨g1, ⟨k19, f19⟩, va4, vc4, hv4⟩ := HGR.out W6 y6 gy6 cy6 _ v4 w4 HW6.out HM6.out hown4 hg4
          have hc9 : Blk (W6.alloc (.cells (ptrR y6).toArray 59)) w.heap.size 28 (cc c pa pn pc sa sn sc) := HCB.out.below (HW6.out.trans ((below_one W6 _).mono HW6.out.size))
          have e9 := hg4.block w.heap.size hc9.lt (fun e => row_apart HO.out.2 hc9 (by decide) w.heap.size e.symm rfl)
          have hx9 : x ≠ w.heap.size := HP.out.blk.apart HBX.out (by decide)
          have hc10 := hc9.of_same e9
          have K33 := Lib.hid (show w4.cell? ⟨w.heap.size, 3, none⟩ = some (.int .i64 (t : Int)) by rw [World.cell?_of_block e9]; exact HS7.out.2)
          have K34 := Lib.hid (show (w4.setCell ⟨x, 1, none⟩ v4).cell? ⟨w.heap.size, 3, none⟩ = some (.int .i64 (t : Int)) by
            rw [World.cell?_of_block (Below.heap_setCell w4 ⟨x, 1, none⟩ v4 w.heap.size (Ne.symm hx9))]
            exact K33.out)
          have HG1 := Lib.hid g1
          subst hv4
          clear hown4 hg4 g1 hc9 e9 hc10 hx9
          refine hK.out _ _ K33.out (fun _ => ?_)
          clear hK KK
          simp only [List.getElem_toArray, List.getElem_cons_succ, List.getElem_cons_zero, Act.put, List.setIfInBounds_toArray, List.set_cons_zero, List.set_cons_succ]
          refine wpAnyH_take (i := 9) (v := .pointer (some ⟨x, 0, none⟩)) rfl (by kernel_rfl) (by kernel_rfl) (by kernel_rfl) (fun _ _ _ h => h) (Or.inl ⟨by rfl, fun u hu => by (go_simp)⟩) K33.out ?_
          simp only [List.getElem_toArray, List.getElem_cons_succ, List.getElem_cons_zero, Act.put, List.setIfInBounds_toArray, List.set_cons_zero, List.set_cons_succ]
          refine wpAnyH_take (i := 10) (v := .pointer (some ⟨x, 1, none⟩)) rfl (by kernel_rfl) (by kernel_rfl) (by kernel_rfl) (fun _ _ _ h => h) (Or.inl ⟨by rfl, fun u hu => by (go_simp)⟩) K33.out ?_
          simp only [List.getElem_toArray, List.getElem_cons_succ, List.getElem_cons_zero, Act.put, List.setIfInBounds_toArray, List.set_cons_zero, List.set_cons_succ]
          refine wpAnyH_ready (rs := [11]) (by kernel_rfl) (by simp) ?_
          refine AllReadyH.cons rfl (fun KK hK => ?_) AllReadyH.nil
          go_simp
          refine hK.out _ _ K34.out (fun _ => ?_)
          clear hK KK
          simp only [List.setIfInBounds_toArray, List.set_cons_zero, List.set_cons_succ]
          refine wpAnyH_done (by kernel_rfl) ?_ _
          go_wp2
          go_ret
          obtain ⟨ys', z1, z2, z3, z4⟩ := HG1.out
          exact ⟨x, q, g, rv, .slice va4 (j + 1) vc4, ys', rfl, z1, z2, HBL.out.2, z4⟩
        · go_simp
          refine hK.out _ _ HS7.out.2 (fun _ => ?_)
          clear hK KK
          simp only [List.setIfInBounds_toArray, List.set_cons_zero, List.set_cons_succ]
          refine wpAnyH_ready (rs := [4]) (by kernel_rfl) (by simp) ?_
          refine AllReadyH.cons rfl (fun KK hK => ?_) AllReadyH.nil
          have c1 := HS7.out.1
          go_simp
          refine hK.out _ _ HS7.out.2 (fun _ => ?_)
          clear hK KK
          simp only [List.setIfInBounds_toArray, List.set_cons_zero, List.set_cons_succ]
          clear c1
          refine wpAnyH_ready (rs := [8]) (by kernel_rfl) (by simp) ?_
          refine AllReadyH.cons rfl (fun KK hK => ?_) AllReadyH.nil
          refine wp_appP (.tmp 35) (.tmp 38) rfl rfl HO.out rfl H5.out HJN.out HB9.out ?_
          intro v4 w4 hown4 hg4
          obtain ⟨g1, ⟨k19, f19⟩, va4, vc4, hv4⟩ := HGR.out W6 y6 gy6 cy6 _ v4 w4 HW6.out HM6.out hown4 hg4
          have hc9 : Blk (W6.alloc (.cells (ptrR y6).toArray 59)) w.heap.size 28 (cc c pa pn pc sa sn sc) := HCB.out.below (HW6.out.trans ((below_one W6 _).mono HW6.out.size))
          have e9 := hg4.block w.heap.size hc9.lt (fun e => row_apart HO.out.2 hc9 (by decide) w.heap.size e.symm rfl)
          have hx9 : x ≠ w.heap.size := HP.out.blk.apart HBX.out (by decide)
          have hc10 := hc9.of_same e9
          have K33 := Lib.hid (show w4.cell? ⟨w.heap.size, 3, none⟩ = some (.int .i64 (t : Int)) by rw [World.cell?_of_block e9]; exact HS7.out.2)
          have K34 := Lib.hid (show (w4.setCell ⟨x, 1, none⟩ v4).cell? ⟨w.heap.size, 3, none⟩ = some (.int .i64 (t : Int)) by
            rw [World.cell?_of_block (Below.heap_setCell w4 ⟨x, 1, none⟩ v4 w.heap.size (Ne.symm hx9))]
            exact K33.out)
          have HG1 := Lib.hid g1
          subst hv4
          clear hown4 hg4 g1 hc9 e9 hc10 hx9
          refine hK.out _ _ K33.out (fun _ => ?_)
          clear hK KK
          simp only [List.getElem_toArray, List.getElem_cons_succ, List.getElem_cons_zero, Act.put, List.setIfInBounds_toArray, List.set_cons_zero, List.set_cons_succ]
          refine wpAnyH_take (i := 9) (v := .pointer (some ⟨x, 0, none⟩)) rfl (by kernel_rfl) (by kernel_rfl) (by kernel_rfl) (fun _ _ _ h => h) (Or.inl ⟨by rfl, fun u hu => by (go_simp)⟩) K33.out ?_
          simp only [List.getElem_toArray, List.getElem_cons_succ, List.getElem_cons_zero, Act.put, List.setIfInBounds_toArray, List.set_cons_zero, List.set_cons_succ]
          refine wpAnyH_take (i := 10) (v := .pointer (some ⟨x, 1, none⟩)) rfl (by kernel_rfl) (by kernel_rfl) (by kernel_rfl) (fun _ _ _ h => h) (Or.inl ⟨by rfl, fun u hu => by (go_simp)⟩) K33.out ?_
          simp only [List.getElem_toArray, List.getElem_cons_succ, List.getElem_cons_zero, Act.put, List.setIfInBounds_toArray, List.set_cons_zero, List.set_cons_succ]
          refine wpAnyH_ready (rs := [11]) (by kernel_rfl) (by simp) ?_
          refine AllReadyH.cons rfl (fun KK hK => ?_) AllReadyH.nil
          go_simp
          refine hK.out _ _ K34.out (fun _ => ?_)
          clear hK KK
          simp only [List.setIfInBounds_toArray, List.set_cons_zero, List.set_cons_succ]
          refine wpAnyH_done (by kernel_rfl) ?_ _
          go_wp2
          go_ret
          obtain ⟨ys', z1, z2, z3, z4⟩ := HG1.out
          exact ⟨x, q, g, rv, .slice va4 (j + 1) vc4, ys', rfl, z1, z2, HBL.out.2, z4⟩
    have htj : ¬ (t : Int) = 0 := by have := HK.out; omega
    have htj3 : ¬ t = 0 := by omega
    obtain ⟨r, hr⟩ : ∃ r : Nat, j % t = r := ⟨_, rfl⟩
    have hmod : (j : Int).tmod (t : Int) = (r : Int) := by rw [← hr]; exact (Int.ofNat_tmod j t).symm
    have HRM := Lib.hid hr
    clear hr
    have hlt2 : (j : Int) < (k : Int) := by omega
    have hk64 : (k : Int) ≤ 64 := by have := HK.out; omega
    clear ej
    have HMK := Lib.hid (fun V : World => make_any { fraWk (j : Int) (r : Int) with ln := 0 } V rfl)
    go_upto_region 5 with fail
    clear e0
    have HWD := Lib.hid (show Below wr.heap.size wr wr.drew from below_drew (Below.refl _ _))
    have HSD := Lib.hid (HALL.out wr.drew HWD.out).1
    refine wp_region_held_drew (S := (fun u => u.cell? ⟨w.heap.size, 3, none⟩ = some (.int .i64 (t : Int)))) (by kernel_rfl) HSD.out.2 (fun _ => ?_)
    change wpAnyH _ _ _ _ _ 17 #[false, false, false, false, false, false, false, false, false, false, false, false, false, false, false, false, false] _ (World.drew _)
    refine wpAnyH_take (i := 0) (v := .pointer (some ⟨x, 0, none⟩)) rfl (by kernel_rfl) (by kernel_rfl) (by kernel_rfl) (fun _ _ _ h => h) (Or.inl ⟨by rfl, fun u hu => by (go_simp)⟩) HSD.out.2 ?_
    simp only [List.getElem_toArray, List.getElem_cons_succ, List.getElem_cons_zero, Act.put, List.setIfInBounds_toArray, List.set_cons_zero, List.set_cons_succ]
    refine wpAnyH_take (i := 1) (v := .pointer (some ⟨x, 0, none⟩)) rfl (by kernel_rfl) (by kernel_rfl) (by kernel_rfl) (fun _ _ _ h => h) (Or.inl ⟨by rfl, fun u hu => by (go_simp)⟩) HSD.out.2 ?_
    simp only [List.getElem_toArray, List.getElem_cons_succ, List.getElem_cons_zero, Act.put, List.setIfInBounds_toArray, List.set_cons_zero, List.set_cons_succ]
    refine wpAnyH_take (i := 2) (v := .pointer (some ⟨x, 0, none⟩)) rfl (by kernel_rfl) (by kernel_rfl) (by kernel_rfl) (fun _ _ _ h => h) (Or.inl ⟨by rfl, fun u hu => by (go_simp)⟩) HSD.out.2 ?_
    simp only [List.getElem_toArray, List.getElem_cons_succ, List.getElem_cons_zero, Act.put, List.setIfInBounds_toArray, List.set_cons_zero, List.set_cons_succ]
    refine wpAnyH_take (i := 3) (v := .pointer (some ⟨x, 1, none⟩)) rfl (by kernel_rfl) (by kernel_rfl) (by kernel_rfl) (fun _ _ _ h => h) (Or.inl ⟨by rfl, fun u hu => by (go_simp)⟩) HSD.out.2 ?_
    simp only [List.getElem_toArray, List.getElem_cons_succ, List.getElem_cons_zero, Act.put, List.setIfInBounds_toArray, List.set_cons_zero, List.set_cons_succ]
    refine wpAnyH_take (i := 5) (v := .int .i64 j) rfl (by kernel_rfl) (by kernel_rfl) (by kernel_rfl) (fun _ _ _ h => h) (Or.inl ⟨by rfl, fun u hu => by (go_simp)⟩) HSD.out.2 ?_
    simp only [List.getElem_toArray, List.getElem_cons_succ, List.getElem_cons_zero, Act.put, List.setIfInBounds_toArray, List.set_cons_zero, List.set_cons_succ]
    refine wpAnyH_take (i := 6) (v := .int .i64 j) rfl (by kernel_rfl) (by kernel_rfl) (by kernel_rfl) (fun _ _ _ h => h) (Or.inl ⟨by rfl, fun u hu => by (go_simp)⟩) HSD.out.2 ?_
    simp only [List.getElem_toArray, List.getElem_cons_succ, List.getElem_cons_zero, Act.put, List.setIfInBounds_toArray, List.set_cons_zero, List.set_cons_succ]
    refine wpAnyH_take (i := 7) (v := .pointer (some ⟨w.heap.size, 3, none⟩)) rfl (by kernel_rfl) (by kernel_rfl) (by kernel_rfl) (fun _ _ _ h => h) (Or.inl ⟨by rfl, fun u hu => by (go_simp)⟩) HSD.out.2 ?_
    simp only [List.getElem_toArray, List.getElem_cons_succ, List.getElem_cons_zero, Act.put, List.setIfInBounds_toArray, List.set_cons_zero, List.set_cons_succ]
    refine wpAnyH_take (i := 8) (v := .int .i64 t) rfl (by kernel_rfl) (by kernel_rfl) (by kernel_rfl) (fun _ _ _ h => h) (Or.inl ⟨by rfl, fun u hu => by (have c3 := hu; go_simp)⟩) HSD.out.2 ?_
    simp only [List.getElem_toArray, List.getElem_cons_succ, List.getElem_cons_zero, Act.put, List.setIfInBounds_toArray, List.set_cons_zero, List.set_cons_succ]
    refine wpAnyH_take (i := 9) (v := .int .i64 r) rfl (by kernel_rfl) (by kernel_rfl) (by kernel_rfl) (fun _ _ _ h => h) (Or.inl ⟨by rfl, fun u hu => by (go_simp)⟩) HSD.out.2 ?_
    simp only [List.getElem_toArray, List.getElem_cons_succ, List.getElem_cons_zero, Act.put, List.setIfInBounds_toArray, List.set_cons_zero, List.set_cons_succ]
    refine wpAnyH_take (i := 10) (v := .agg #[.int .i64 25, .int .i64 0, .int .i64 0, .int .i64 0, .int .i64 0, .int .i64 0, .int .i64 j, .int .i64 0, .int .i64 0, .int .i64 0, .int .i64 r, .int .i64 0, .int .i64 0, .int .u64 0, .int .u64 0, .int .u64 0, .int .u64 0, .slice none 0 0]) rfl (by kernel_rfl) (by kernel_rfl) (by kernel_rfl) (fun _ _ _ h => h) (Or.inl ⟨by rfl, fun u hu => by (go_simp)⟩) HSD.out.2 ?_
    simp only [List.getElem_toArray, List.getElem_cons_succ, List.getElem_cons_zero, Act.put, List.setIfInBounds_toArray, List.set_cons_zero, List.set_cons_succ]
    refine wpAnyH_ready (rs := [4, 11]) (by kernel_rfl) (by simp) ?_
    refine AllReadyH.cons rfl (fun KK hK => ?_) (AllReadyH.cons rfl (fun KK hK => ?_) AllReadyH.nil)
    · have c1 := HSD.out.1
      go_simp
      refine hK.out _ _ HSD.out.2 (fun _ => ?_)
      clear hK KK
      simp only [List.setIfInBounds_toArray, List.set_cons_zero, List.set_cons_succ]
      clear c1
      refine wpAnyH_ready (rs := [11]) (by kernel_rfl) (by simp) ?_
      refine AllReadyH.cons rfl (fun KK hK => ?_) AllReadyH.nil
      go_simp
      go_at_call 14
      (with_reducible refine (HMK.out _).mono ?_)
      rintro e W6 ⟨y6, gy6, cy6, rfl, hm6, hb6⟩
      have hb6' : Below wr.heap.size wr W6 := HWD.out.trans hb6
      have hb7 := below_one W6 (.cells (ptrR y6).toArray 59)
      have HS6 := Lib.hid (HALL.out W6 hb6').1
      have hs7 := HALL.out (W6.alloc (.cells (ptrR y6).toArray 59)) (hb6'.trans (hb7.mono hb6'.size))
      have HS7 := Lib.hid hs7.1
      have HO := Lib.hid hs7.2.own
      have H5 := Lib.hid (made_row1 (Blk.made W6 59 (ptrR y6).toArray))
      have HJN := Lib.hid (show (ys.map fun y => ptrR y.1).length + 1 ≤ 1000000 by rw [HP.out.rows, engF_len]; have := HK.out; omega)
      have HB9 := Lib.hid (show w.heap.size ≤ (W6.alloc (.cells (ptrR y6).toArray 59)).heap.size from Nat.le_trans (Nat.le_trans HBL.out.1.size hb6'.size) hb7.size)
      have HW6 := Lib.hid hb6'
      have HM6 := Lib.hid (show Mach1 wr.heap.size W6 y6 gy6 cy6 [] (fraWk (j : Int) (r : Int)) from hm6)
      clear hb6 hb6' hb7 hs7 hm6
      refine hK.out _ _ HS6.out.2 (fun _ => ?_)
      clear hK KK
      simp only [List.setIfInBounds_toArray, List.set_cons_zero, List.set_cons_succ]
      refine wpAnyH_ready (rs := [12]) (by kernel_rfl) (by simp) ?_
      refine AllReadyH.cons rfl (fun KK hK => ?_) AllReadyH.nil
      go_simp
      refine hK.out _ _ HS7.out.2 (fun _ => ?_)
      clear hK KK
      simp only [List.setIfInBounds_toArray, List.set_cons_zero, List.set_cons_succ]
      refine wpAnyH_ready (rs := [13]) (by kernel_rfl) (by simp) ?_
      refine AllReadyH.cons rfl (fun KK hK => ?_) AllReadyH.nil
      refine wp_appP (.tmp 19) (.tmp 27) rfl rfl HO.out rfl H5.out HJN.out HB9.out ?_
      intro v4 w4 hown4 hg4
      obtain ⟨g1, ⟨k19, f19⟩, va4, vc4, hv4⟩ := HGR.out W6 y6 gy6 cy6 _ v4 w4 HW6.out HM6.out hown4 hg4
      have hc9 : Blk (W6.alloc (.cells (ptrR y6).toArray 59)) w.heap.size 28 (cc c pa pn pc sa sn sc) := HCB.out.below (HW6.out.trans ((below_one W6 _).mono HW6.out.size))
      have e9 := hg4.block w.heap.size hc9.lt (fun e => row_apart HO.out.2 hc9 (by decide) w.heap.size e.symm rfl)
      have hx9 : x ≠ w.heap.size := HP.out.blk.apart HBX.out (by decide)
      have hc10 := hc9.of_same e9
      have K33 := Lib.hid (show w4.cell? ⟨w.heap.size, 3, none⟩ = some (.int .i64 (t : Int)) by rw [World.cell?_of_block e9]; exact HS7.out.2)
      have K34 := Lib.hid (show (w4.setCell ⟨x, 1, none⟩ v4).cell? ⟨w.heap.size, 3, none⟩ = some (.int .i64 (t : Int)) by
        rw [World.cell?_of_block (Below.heap_setCell w4 ⟨x, 1, none⟩ v4 w.heap.size (Ne.symm hx9))]
        exact K33.out)
      have HG1 := Lib.hid g1
      subst hv4
      clear hown4 hg4 g1 hc9 e9 hc10 hx9
      refine hK.out _ _ K33.out (fun _ => ?_)
      clear hK KK
      simp only [List.getElem_toArray, List.getElem_cons_succ, List.getElem_cons_zero, Act.put, List.setIfInBounds_toArray, List.set_cons_zero, List.set_cons_succ]
      refine wpAnyH_take (i := 14) (v := .pointer (some ⟨x, 0, none⟩)) rfl (by kernel_rfl) (by kernel_rfl) (by kernel_rfl) (fun _ _ _ h => h) (Or.inl ⟨by rfl, fun u hu => by (go_simp)⟩) K33.out ?_
      simp only [List.getElem_toArray, List.getElem_cons_succ, List.getElem_cons_zero, Act.put, List.setIfInBounds_toArray, List.set_cons_zero, List.set_cons_succ]
      refine wpAnyH_take (i := 15) (v := .pointer (some ⟨x, 1, none⟩)) rfl (by kernel_rfl) (by kernel_rfl) (by kernel_rfl) (fun _ _ _ h => h) (Or.inl ⟨by rfl, fun u hu => by (go_simp)⟩) K33.out ?_
      simp only [List.getElem_toArray, List.getElem_cons_succ, List.getElem_cons_zero, Act.put, List.setIfInBounds_toArray, List.set_cons_zero, List.set_cons_succ]
      refine wpAnyH_ready (rs := [16]) (by kernel_rfl) (by simp) ?_
      refine AllReadyH.cons rfl (fun KK hK => ?_) AllReadyH.nil
      go_simp
      refine hK.out _ _ K34.out (fun _ => ?_)
      clear hK KK
      simp only [List.setIfInBounds_toArray, List.set_cons_zero, List.set_cons_succ]
      refine wpAnyH_done (by kernel_rfl) ?_ _
      go_wp2_with fail
      go_roundw
      case rel =>
        obtain ⟨ys', z1, z2, z3, z4⟩ := HG1.out
        refine ⟨j + 1, .slice va4 (j + 1) vc4, ys', by omega, by go_num, z1, ?_, z3, HBL.out.2, z4⟩
        rw [engF_succ, HRM.out]
        exact z2
      case measure => simp [intOf]; omega
    · go_simp
      go_at_call 14
      (with_reducible refine (HMK.out _).mono ?_)
      rintro e W6 ⟨y6, gy6, cy6, rfl, hm6, hb6⟩
      have hb6' : Below wr.heap.size wr W6 := HWD.out.trans hb6
      have hb7 := below_one W6 (.cells (ptrR y6).toArray 59)
      have HS6 := Lib.hid (HALL.out W6 hb6').1
      have hs7 := HALL.out (W6.alloc (.cells (ptrR y6).toArray 59)) (hb6'.trans (hb7.mono hb6'.size))
      have HS7 := Lib.hid hs7.1
      have HO := Lib.hid hs7.2.own
      have H5 := Lib.hid (made_row1 (Blk.made W6 59 (ptrR y6).toArray))
      have HJN := Lib.hid (show (ys.map fun y => ptrR y.1).length + 1 ≤ 1000000 by rw [HP.out.rows, engF_len]; have := HK.out; omega)
      have HB9 := Lib.hid (show w.heap.size ≤ (W6.alloc (.cells (ptrR y6).toArray 59)).heap.size from Nat.le_trans (Nat.le_trans HBL.out.1.size hb6'.size) hb7.size)
      have HW6 := Lib.hid hb6'
      have HM6 := Lib.hid (show Mach1 wr.heap.size W6 y6 gy6 cy6 [] (fraWk (j : Int) (r : Int)) from hm6)
      clear hb6 hb6' hb7 hs7 hm6
      refine hK.out _ _ HS6.out.2 (fun _ => ?_)
      clear hK KK
      simp only [List.setIfInBounds_toArray, List.set_cons_zero, List.set_cons_succ]
      refine wpAnyH_ready (rs := [4, 12]) (by kernel_rfl) (by simp) ?_
      refine AllReadyH.cons rfl (fun KK hK => ?_) (AllReadyH.cons rfl (fun KK hK => ?_) AllReadyH.nil)
      · have c1 := HS6.out.1
        go_simp
        refine hK.out _ _ HS6.out.2 (fun _ => ?_)
        clear hK KK
        simp only [List.setIfInBounds_toArray, List.set_cons_zero, List.set_cons_succ]
        clear c1
        refine wpAnyH_ready (rs := [12]) (by kernel_rfl) (by simp) ?_
        refine AllReadyH.cons rfl (fun KK hK => ?_) AllReadyH.nil
        go_simp
        refine hK.out _ _ HS7.out.2 (fun _ => ?_)
        clear hK KK
        simp only [List.setIfInBounds_toArray, List.set_cons_zero, List.set_cons_succ]
        refine wpAnyH_ready (rs := [13]) (by kernel_rfl) (by simp) ?_
        refine AllReadyH.cons rfl (fun KK hK => ?_) AllReadyH.nil
        refine wp_appP (.tmp 19) (.tmp 27) rfl rfl HO.out rfl H5.out HJN.out HB9.out ?_
        intro v4 w4 hown4 hg4
        obtain ⟨g1, ⟨k19, f19⟩, va4, vc4, hv4⟩ := HGR.out W6 y6 gy6 cy6 _ v4 w4 HW6.out HM6.out hown4 hg4
        have hc9 : Blk (W6.alloc (.cells (ptrR y6).toArray 59)) w.heap.size 28 (cc c pa pn pc sa sn sc) := HCB.out.below (HW6.out.trans ((below_one W6 _).mono HW6.out.size))
        have e9 := hg4.block w.heap.size hc9.lt (fun e => row_apart HO.out.2 hc9 (by decide) w.heap.size e.symm rfl)
        have hx9 : x ≠ w.heap.size := HP.out.blk.apart HBX.out (by decide)
        have hc10 := hc9.of_same e9
        have K33 := Lib.hid (show w4.cell? ⟨w.heap.size, 3, none⟩ = some (.int .i64 (t : Int)) by rw [World.cell?_of_block e9]; exact HS7.out.2)
        have K34 := Lib.hid (show (w4.setCell ⟨x, 1, none⟩ v4).cell? ⟨w.heap.size, 3, none⟩ = some (.int .i64 (t : Int)) by
          rw [World.cell?_of_block (Below.heap_setCell w4 ⟨x, 1, none⟩ v4 w.heap.size (Ne.symm hx9))]
          exact K33.out)
        have HG1 := Lib.hid g1
        subst hv4
        clear hown4 hg4 g1 hc9 e9 hc10 hx9
        refine hK.out _ _ K33.out (fun _ => ?_)
        clear hK KK
        simp only [List.getElem_toArray, List.getElem_cons_succ, List.getElem_cons_zero, Act.put, List.setIfInBounds_toArray, List.set_cons_zero, List.set_cons_succ]
        refine wpAnyH_take (i := 14) (v := .pointer (some ⟨x, 0, none⟩)) rfl (by kernel_rfl) (by kernel_rfl) (by kernel_rfl) (fun _ _ _ h => h) (Or.inl ⟨by rfl, fun u hu => by (go_simp)⟩) K33.out ?_
        simp only [List.getElem_toArray, List.getElem_cons_succ, List.getElem_cons_zero, Act.put, List.setIfInBounds_toArray, List.set_cons_zero, List.set_cons_succ]
        refine wpAnyH_take (i := 15) (v := .pointer (some ⟨x, 1, none⟩)) rfl (by kernel_rfl) (by kernel_rfl) (by kernel_rfl) (fun _ _ _ h => h) (Or.inl ⟨by rfl, fun u hu => by (go_simp)⟩) K33.out ?_
        simp only [List.getElem_toArray, List.getElem_cons_succ, List.getElem_cons_zero, Act.put, List.setIfInBounds_toArray, List.set_cons_zero, List.set_cons_succ]
        refine wpAnyH_ready (rs := [16]) (by kernel_rfl) (by simp) ?_
        refine AllReadyH.cons rfl (fun KK hK => ?_) AllReadyH.nil
        go_simp
        refine hK.out _ _ K34.out (fun _ => ?_)
        clear hK KK
        simp only [List.setIfInBounds_toArray, List.set_cons_zero, List.set_cons_succ]
        refine wpAnyH_done (by kernel_rfl) ?_ _
        go_wp2_with fail
        go_roundw
        case rel =>
          obtain ⟨ys', z1, z2, z3, z4⟩ := HG1.out
          refine ⟨j + 1, .slice va4 (j + 1) vc4, ys', by omega, by go_num, z1, ?_, z3, HBL.out.2, z4⟩
          rw [engF_succ, HRM.out]
          exact z2
        case measure => simp [intOf]; omega
      · go_simp
        refine hK.out _ _ HS7.out.2 (fun _ => ?_)
        clear hK KK
        simp only [List.setIfInBounds_toArray, List.set_cons_zero, List.set_cons_succ]
        refine wpAnyH_ready (rs := [4]) (by kernel_rfl) (by simp) ?_
        refine AllReadyH.cons rfl (fun KK hK => ?_) AllReadyH.nil
        have c1 := HS7.out.1
        go_simp
        refine hK.out _ _ HS7.out.2 (fun _ => ?_)
        clear hK KK
        simp only [List.setIfInBounds_toArray, List.set_cons_zero, List.set_cons_succ]
        clear c1
        refine wpAnyH_ready (rs := [13]) (by kernel_rfl) (by simp) ?_
        refine AllReadyH.cons rfl (fun KK hK => ?_) AllReadyH.nil
        refine wp_appP (.tmp 19) (.tmp 27) rfl rfl HO.out rfl H5.out HJN.out HB9.out ?_
        intro v4 w4 hown4 hg4
        obtain ⟨g1, ⟨k19, f19⟩, va4, vc4, hv4⟩ := HGR.out W6 y6 gy6 cy6 _ v4 w4 HW6.out HM6.out hown4 hg4
        have hc9 : Blk (W6.alloc (.cells (ptrR y6).toArray 59)) w.heap.size 28 (cc c pa pn pc sa sn sc) := HCB.out.below (HW6.out.trans ((below_one W6 _).mono HW6.out.size))
        have e9 := hg4.block w.heap.size hc9.lt (fun e => row_apart HO.out.2 hc9 (by decide) w.heap.size e.symm rfl)
        have hx9 : x ≠ w.heap.size := HP.out.blk.apart HBX.out (by decide)
        have hc10 := hc9.of_same e9
        have K33 := Lib.hid (show w4.cell? ⟨w.heap.size, 3, none⟩ = some (.int .i64 (t : Int)) by rw [World.cell?_of_block e9]; exact HS7.out.2)
        have K34 := Lib.hid (show (w4.setCell ⟨x, 1, none⟩ v4).cell? ⟨w.heap.size, 3, none⟩ = some (.int .i64 (t : Int)) by
          rw [World.cell?_of_block (Below.heap_setCell w4 ⟨x, 1, none⟩ v4 w.heap.size (Ne.symm hx9))]
          exact K33.out)
        have HG1 := Lib.hid g1
        subst hv4
        clear hown4 hg4 g1 hc9 e9 hc10 hx9
        refine hK.out _ _ K33.out (fun _ => ?_)
        clear hK KK
        simp only [List.getElem_toArray, List.getElem_cons_succ, List.getElem_cons_zero, Act.put, List.setIfInBounds_toArray, List.set_cons_zero, List.set_cons_succ]
        refine wpAnyH_take (i := 14) (v := .pointer (some ⟨x, 0, none⟩)) rfl (by kernel_rfl) (by kernel_rfl) (by kernel_rfl) (fun _ _ _ h => h) (Or.inl ⟨by rfl, fun u hu => by (go_simp)⟩) K33.out ?_
        simp only [List.getElem_toArray, List.getElem_cons_succ, List.getElem_cons_zero, Act.put, List.setIfInBounds_toArray, List.set_cons_zero, List.set_cons_succ]
        refine wpAnyH_take (i := 15) (v := .pointer (some ⟨x, 1, none⟩)) rfl (by kernel_rfl) (by kernel_rfl) (by kernel_rfl) (fun _ _ _ h => h) (Or.inl ⟨by rfl, fun u hu => by (go_simp)⟩) K33.out ?_
        simp only [List.getElem_toArray, List.getElem_cons_succ, List.getElem_cons_zero, Act.put, List.setIfInBounds_toArray, List.set_cons_zero, List.set_cons_succ]
        refine wpAnyH_ready (rs := [16]) (by kernel_rfl) (by simp) ?_
        refine AllReadyH.cons rfl (fun KK hK => ?_) AllReadyH.nil
        go_simp
        refine hK.out _ _ K34.out (fun _ => ?_)
        clear hK KK
        simp only [List.setIfInBounds_toArray, List.set_cons_zero, List.set_cons_succ]
        refine wpAnyH_done (by kernel_rfl) ?_ _
        go_wp2_with fail
        go_roundw
        case rel =>
          obtain ⟨ys', z1, z2, z3, z4⟩ := HG1.out
          refine ⟨j + 1, .slice va4 (j + 1) vc4, ys', by omega, by go_num, z1, ?_, z3, HBL.out.2, z4⟩
          rw [engF_succ, HRM.out]
          exact z2
        case measure => simp [intOf]; omega
end Go.Proofs.YtanbjdlaolgepaaGreat
