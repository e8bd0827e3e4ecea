/-
  Contract of write.
-/
import Derived.Test.YtnpnamgeajifkaaCfWrA
import Derived.Deep.CutRange
import Derived.Deep.CutBlock
import Derived.Deep.RegionHeld
namespace Go.Proofs.Ytnpnamgeajifkaa
open Go Go.RowKit

/-- What is known on the way of write: the configuration lies in block cb, the bytes' variable is block g, vs has been written. -/
structure WrW (c : Cfg) (w : World) (B g cb : Nat) (pa : Option Addr) (pn pc : Nat) (sa : Option Addr) (sn sc : Nat) (vs : List Int) (u : World) : Prop where
  st : WrSt u B g (vs.map fun v => v % 256)
  x : Blk u cb 25 (cc c pa pn pc sa sn sc)
  b : Below w.heap.size w u
  o1 : w.heap.size ≤ cb
  o2 : cb < g
section
variable {c : Cfg} {w u u' : World} {B g cb : Nat} {pa : Option Addr} {pn pc : Nat} {sa : Option Addr} {sn sc : Nat} {vs l : List Int}
theorem WrW.put (h : WrW c w B g cb pa pn pc sa sn sc vs u) (hs : WrSt u' B g ((vs.map fun v => v % 256) ++ l.map fun v => v % 256)) (hf : FrE B g u u') : WrW c w B g cb pa pn pc sa sn sc (vs ++ l) u' := by
  have h1 := h.o1
  have h2 := h.o2
  have h3 := h.st.lt
  exact ⟨by rw [List.map_append]; exact hs, hf.blk h.x (by omega) (by decide), hf.below h.b (by omega) (by omega), h1, h2⟩
theorem WrW.below (h : WrW c w B g cb pa pn pc sa sn sc vs u) (hb : Below u.heap.size u u') : WrW c w B g cb pa pn pc sa sn sc vs u' :=
  ⟨h.st.below hb, h.x.below hb, h.b.trans (hb.mono h.b.size), h.o1, h.o2⟩
theorem WrW.alloc (h : WrW c w B g cb pa pn pc sa sn sc vs u) (o : Obj) : WrW c w B g cb pa pn pc sa sn sc vs (u.alloc o) := h.below (below_one u o)
theorem WrW.e (h : WrW c w B g cb pa pn pc sa sn sc vs u) : Eleven u cb c pa pn pc sa sn sc := eleven h.x
/-- A literal list of numbers, laid for the writer. -/
theorem WrW.lit (h : WrW c w B g cb pa pn pc sa sn sc vs u) (l : List Int) : Safe (u.alloc (.cells (l.map (Value.int .i64)).toArray 3)) B g (some ⟨u.heap.size, 0, none⟩) l.length := by
  intro x _ e
  simp only [Option.some.injEq] at e
  subst e
  have h3 := h.st.lt
  refine ⟨by show u.heap.size ≠ g; omega, by simp, .inr ⟨_, _, Blk.made u 3 _, by decide⟩⟩
end
def val0 (c : Cfg) : List Int := (pre0 c).map (·.1)
def WrP (c : Cfg) (w : World) (B g cb : Nat) (pa : Option Addr) (pn pc : Nat) (sa : Option Addr) (sn sc : Nat) (i : Value) (u : World) : Prop :=
  ∃ k : Nat, k ≤ pn ∧ i = .int .i64 k ∧ WrW c w B g cb pa pn pc sa sn sc ((pre1 c k).map (·.1)) u
def WrI (c : Cfg) (w : World) (B g cb : Nat) (pa : Option Addr) (pn pc : Nat) (sa : Option Addr) (sn sc : Nat) (vs : List Int) (p : List T3) (i : Value) (u : World) : Prop :=
  ∃ j : Nat, j ≤ p.length ∧ i = .int .i64 j ∧ WrW c w B g cb pa pn pc sa sn sc (vs ++ ((p.take j).flatMap (puI c.pr.length c.le)).map (·.1)) u
def WrS (c : Cfg) (w : World) (B g cb : Nat) (pa : Option Addr) (pn pc : Nat) (sa : Option Addr) (sn sc : Nat) (i : Value) (u : World) : Prop :=
  ∃ k : Nat, k ≤ sn ∧ i = .int .i64 k ∧ WrW c w B g cb pa pn pc sa sn sc ((pre2 c k).map (·.1)) u
/-- What the loop keeps that takes zeros off the end. -/
def TrimB (w : World) (B g : Nat) (bs : List Int) (u : World) : Prop :=
  ∃ (k : Nat) (oa : Option Addr) (oc : Nat), k ≤ bs.length ∧ Blk u g 26 #[.slice oa k oc] ∧ OwnB u B (.slice oa k oc) (bs.take k) ∧ (∀ j, k ≤ j → bs.getD j 0 = 0) ∧ Below w.heap.size w u
def Written (c : Cfg) (w : World) (e : Ending) (w' : World) : Prop :=
  ∃ v zs, e = .returned v ∧ OwnB w' w.heap.size v zs ∧ Trimmed (byts c) zs ∧ Below w.heap.size w w'
theorem byts_vals (c : Cfg) : byts c = ((puts c).map (·.1)).map fun v => v % 256 := by
  unfold byts
  rw [List.map_map]
  rfl

set_option maxRecDepth 100000 in
set_option maxHeartbeats 16000000 in
theorem write_any {w : World} {B0 : Nat} {c : Cfg} {pa : Option Addr} {pn : Nat} {sa : Option Addr} {sn : Nat} (h : Lists w B0 c pa pn sa sn) (pc sc : Nat) (hk : chk c = 0) :
    Calls Try.prog 35 #[cv c pa pn pc sa sn sc] w (Written c w) := by
  have hmf : ∀ (fn : Fn) (first cap : Array Value) (w : World), (Instr.makeFunc fn first cap).run Try.prog w = .ok (.func fn first cap) w := fun _ _ _ _ => rfl
  have HN := Lib.hid h.pr.1
  have HM := Lib.hid h.su.1
  have HH := Lib.hid h
  obtain ⟨hN, hP, hQ, hS⟩ := chk_ok hk
  obtain ⟨⟨n0, n0'⟩, ⟨n1, n1'⟩, ⟨n2, n2'⟩, ⟨n3, n3'⟩, ⟨n4, n4'⟩, ⟨n5, n5'⟩, ⟨n6, n6'⟩, ⟨n7, n7'⟩, ⟨n8, n8'⟩⟩ := numsB_iff.1 hN
  have hP2 := inB_iff.1 hP
  rw [h.pr.1] at hP2
  rw [h.su.1] at hS
  obtain ⟨p1, p32⟩ := hP2
  have HQ := Lib.hid (chkPs_ok hQ)
  have HPL := Lib.hid (puts_length hk)
  have hc8 : c.cl ≤ 8 := by omega
  have hba : c.ba ≤ 64 := by omega
  have hG : Blk ((w.alloc (.cells (cc c pa pn pc sa sn sc) 25)).alloc (.cells #[.slice none 0 0] 26)) (w.heap.size + 1) 26 #[.slice none 0 0] := by
    have := Blk.made (w.alloc (.cells (cc c pa pn pc sa sn sc) 25)) 26 #[.slice none 0 0]
    rwa [show (w.alloc (.cells (cc c pa pn pc sa sn sc) 25)).heap.size = w.heap.size + 1 by simp] at this
  have hS0 : WrW c w (w.heap.size + 2) (w.heap.size + 1) w.heap.size pa pn pc sa sn sc [] ((w.alloc (.cells (cc c pa pn pc sa sn sc) 25)).alloc (.cells #[.slice none 0 0] 26)) :=
    ⟨⟨_, hG, OwnB.nil _ _, by omega, by simp⟩, (Blk.made w 25 (cc c pa pn pc sa sn sc)).alloc _, (below_one w _).alloc (by simp) _, Nat.le_refl _, Nat.lt_succ_self _⟩
  have S0 := Lib.hid hS0
  clear hN hP hQ n2' n6' hk h hG hS0
  go_enter Try.func35, Try.ntmps35
  go_upto_region 3 with fail
  generalize (w.alloc (.cells (cc c pa pn pc sa sn sc) 25)).alloc (.cells #[.slice none 0 0] 26) = W0 at *
  obtain ⟨e0, e1, e2, e3, e4, e5, e6, e7, e8, e9, e10⟩ := S0.out.e
  go_wp2_with fail
  have HI := Lib.hid (show InInts (W0.alloc (.cells #[.int .i64 (c.wo - 1), .int .i64 (c.le - 1), .int .i64 (c.cl - 1), .int .i64 (c.ta - 1), .int .i64 (c.de - 1), .int .i64 (c.he - 1), .int .i64 (c.ba - 1), .int .i64 c.ag, .int .i64 (c.pa - 1)] 3)) (some ⟨W0.heap.size, 0, none⟩) 9 [c.wo - 1, c.le - 1, c.cl - 1, c.ta - 1, c.de - 1, c.he - 1, c.ba - 1, c.ag, c.pa - 1] from ints_lit W0 [c.wo - 1, c.le - 1, c.cl - 1, c.ta - 1, c.de - 1, c.he - 1, c.ba - 1, c.ag, c.pa - 1] (by unfold maxLen; simp))
  have HS := Lib.hid (show Safe (W0.alloc (.cells #[.int .i64 (c.wo - 1), .int .i64 (c.le - 1), .int .i64 (c.cl - 1), .int .i64 (c.ta - 1), .int .i64 (c.de - 1), .int .i64 (c.he - 1), .int .i64 (c.ba - 1), .int .i64 c.ag, .int .i64 (c.pa - 1)] 3)) (w.heap.size + 2) (w.heap.size + 1) (some ⟨W0.heap.size, 0, none⟩) 9 from S0.out.lit [c.wo - 1, c.le - 1, c.cl - 1, c.ta - 1, c.de - 1, c.he - 1, c.ba - 1, c.ag, c.pa - 1])
  have S1 := Lib.hid (S0.out.alloc (.cells #[.int .i64 (c.wo - 1), .int .i64 (c.le - 1), .int .i64 (c.cl - 1), .int .i64 (c.ta - 1), .int .i64 (c.de - 1), .int .i64 (c.he - 1), .int .i64 (c.ba - 1), .int .i64 c.ag, .int .i64 (c.pa - 1)] 3))
  clear S0 e0 e1 e2 e3 e4 e5 e6 e7 e8 e9 e10
  refine (writer_any S1.out.st HI.out HS.out _ (by simp)).mono ?_
  rintro e y1 ⟨rfl, hs, hf⟩
  have S2 := Lib.hid (S1.out.put hs hf)
  clear hs hf S1 HI HS
  have e9 := S2.out.e.c9
  go_wp2_with fail
  have HI := Lib.hid (show InInts (y1.alloc (.cells #[.int .i64 ((pn : Int) - 1)] 3)) (some ⟨y1.heap.size, 0, none⟩) 1 [(pn : Int) - 1] from ints_lit y1 [(pn : Int) - 1] (by unfold maxLen; simp))
  have HS := Lib.hid (show Safe (y1.alloc (.cells #[.int .i64 ((pn : Int) - 1)] 3)) (w.heap.size + 2) (w.heap.size + 1) (some ⟨y1.heap.size, 0, none⟩) 1 from S2.out.lit [(pn : Int) - 1])
  have S3 := Lib.hid (S2.out.alloc (.cells #[.int .i64 ((pn : Int) - 1)] 3))
  clear S2 e9
  refine (writer_any S3.out.st HI.out HS.out _ (by simp)).mono ?_
  rintro e y2 ⟨rfl, hs, hf⟩
  have hS4 : WrW c w (w.heap.size + 2) (w.heap.size + 1) w.heap.size pa pn pc sa sn sc ((pre1 c 0).map (·.1)) y2 := by
    have hh := S3.out.put hs hf
    rw [show (pre1 c 0).map (·.1) = [c.wo - 1, c.le - 1, c.cl - 1, c.ta - 1, c.de - 1, c.he - 1, c.ba - 1, c.ag, c.pa - 1] ++ [(pn : Int) - 1] by unfold pre1 pre0; simp [HN.out, puN]]
    exact hh
  have S4 := Lib.hid hS4
  clear hs hf S3 HI HS hS4
  have e9 := S4.out.e.c9
  go_wp2_with fail
  clear e9
  go_loopw [51] (fun i wr => WrP c w (w.heap.size + 2) (w.heap.size + 1) w.heap.size pa pn pc sa sn sc i wr) (fun i _ => pn - (intOf i).toNat)
  case atStart => exact ⟨0, by omega, rfl, S4.out⟩
  case round =>
    obtain ⟨k, hk, rfl, hst⟩ := hrel
    have HS := Lib.hid hst
    clear hst S4
    by_cases hlt : k < pn
    · obtain ⟨x, b, m, cp, p, rfl, hp, _, hx, hc0, ht⟩ := HH.out.pr.at_ hlt
      have hpl := ht.1
      have hm32 := (HQ.out p (List.mem_of_getElem? hp)).1
      rw [hpl] at hm32
      have HP := Lib.hid hp
      have HT := Lib.hid ht
      have HPE := Lib.hid hpl
      have hcw : wr.cell? (x.add k) = some (.slice b m cp) := (HS.out.b.cell (by rw [block_add]; exact hx)).trans hc0
      have hvl : ((pre1 c k).map (·.1)).length ≤ 4000 := by rw [List.length_map]; have := pre1_le c k; have := HPL.out; omega
      clear hp ht hpl hc0
      go_wp2_with fail
      have HI := Lib.hid (show InInts (wr.alloc (.cells #[.int .i64 (m : Int)] 3)) (some ⟨wr.heap.size, 0, none⟩) 1 [(m : Int)] from ints_lit wr [(m : Int)] (by unfold maxLen; simp))
      have HF := Lib.hid (show Safe (wr.alloc (.cells #[.int .i64 (m : Int)] 3)) (w.heap.size + 2) (w.heap.size + 1) (some ⟨wr.heap.size, 0, none⟩) 1 from HS.out.lit [(m : Int)])
      have T1 := Lib.hid (HS.out.alloc (.cells #[.int .i64 (m : Int)] 3))
      clear HS hcw
      refine (writer_any T1.out.st HI.out HF.out _ (by simp at hvl ⊢; omega)).mono ?_
      rintro e y3 ⟨rfl, hs, hf⟩
      have T2 := Lib.hid (T1.out.put hs hf)
      clear hs hf T1 HI HF
      go_wp2_with fail
      go_loopw [62] (fun j wq => WrI c w (w.heap.size + 2) (w.heap.size + 1) w.heap.size (some x) pn pc sa sn sc ((pre1 c k).map (·.1) ++ [(m : Int)]) p j wq) (fun j _ => m - (intOf j).toNat)
      case atStart => exact ⟨0, by omega, rfl, by simpa using T2.out⟩
      case round =>
        obtain ⟨j, hj, rfl, hst⟩ := hrel
        rw [HPE.out] at hj
        have HI0 := Lib.hid hst
        clear hst T2
        by_cases hlj : j < m
        · obtain ⟨yv, o, u, v, rfl, he, _, hy, c0, c1, c2⟩ := HT.out.at_ hlj
          have hv := (HQ.out p (List.mem_of_getElem? HP.out)).2 (o, u, v) (List.mem_of_getElem? he)
          rw [HN.out] at hv
          have HE := Lib.hid he
          have a0 := (HI0.out.b.cell (p := yv.add (j * 3)) (by rw [block_add]; exact hy)).trans c0
          have a1 := (HI0.out.b.cell (p := ⟨(yv.add (j * 3)).block, (yv.add (j * 3)).off + 1, none⟩) (by show (yv.add (j * 3)).block < _; rw [block_add]; exact hy)).trans c1
          have a2 := (HI0.out.b.cell (p := ⟨(yv.add (j * 3)).block, (yv.add (j * 3)).off + 2, none⟩) (by show (yv.add (j * 3)).block < _; rw [block_add]; exact hy)).trans c2
          have hu : -1000 ≤ u ∧ u ≤ 1000 := by
            unfold insB at hv
            split at hv
            · simp only [Bool.and_eq_true, inB_iff] at hv
              omega
            · split at hv
              · simp only [Bool.and_eq_true, inB_iff] at hv
                omega
              · split at hv
                · simp only [Bool.and_eq_true, inB_iff] at hv
                  omega
                · cases hv
          have T3 := Lib.hid (HI0.out.alloc (.cells #[.int .i64 o, .int .i64 u, .int .i64 v] 47))
          have hvl2 : ((pre1 c k).map (·.1) ++ [(m : Int)] ++ ((p.take j).flatMap (puI c.pr.length c.le)).map (·.1)).length ≤ 5000 := by
            have h3 := flatI_length c.pr.length c.le (p.take j)
            have h4 : (p.take j).length ≤ j := List.length_take_le _ _
            simp only [List.length_append, List.length_map, List.length_cons, List.length_nil] at hvl ⊢
            omega
          have HVL := Lib.hid hvl2
          clear he hv c0 c1 c2 HI0 hvl2
          go_wp2_with fail
          refine (insnums_any o u v hu.1 hu.2 _).mono ?_
          rintro e y4 ⟨q, n, rfl, hin, hq, ⟨qs, hqb⟩, hn3, hb⟩
          have T4 := Lib.hid (T3.out.below hb)
          have HIN := Lib.hid hin
          have hqs : Safe y4 (w.heap.size + 2) (w.heap.size + 1) (some ⟨q, 0, none⟩) n := by
            intro z _ e
            simp only [Option.some.injEq] at e
            subst e
            have h3 := T3.out.st.lt
            exact ⟨by show q ≠ w.heap.size + 1; omega, hqb.lt, .inr ⟨_, _, hqb, by decide⟩⟩
          have HQS := Lib.hid hqs
          clear hin hqb hb T3 hqs a0 a1 a2
          go_wp2_with fail
          refine (writer_any T4.out.st HIN.out HQS.out _ (by rw [List.length_map]; have := HVL.out; omega)).mono ?_
          rintro e y5 ⟨rfl, hs, hf⟩
          have hfin : WrW c w (w.heap.size + 2) (w.heap.size + 1) w.heap.size (some x) pn pc sa sn sc ((pre1 c k).map (·.1) ++ [(m : Int)] ++ ((p.take (j + 1)).flatMap (puI c.pr.length c.le)).map (·.1)) y5 := by
            have hh := T4.out.put hs hf
            rw [flat_step HE.out, List.map_append, ← insNs_pu, ← List.append_assoc]
            exact hh
          have HFIN := Lib.hid hfin
          clear hfin hs hf T4 HIN HQS
          go_wp2_with fail
          go_roundw
          case rel => exact ⟨j + 1, by rw [HPE.out]; omega, by go_num, HFIN.out⟩
          case measure => simp [intOf]; omega
        · obtain rfl : j = m := by omega
          have hfin : WrW c w (w.heap.size + 2) (w.heap.size + 1) w.heap.size (some x) pn pc sa sn sc ((pre1 c (k + 1)).map (·.1)) wr := by
            have hh := HI0.out
            rw [← HPE.out, List.take_length, HPE.out] at hh
            rw [pre1_step HP.out, HPE.out, List.map_append, List.map_append]
            exact hh
          have HFIN := Lib.hid hfin
          clear hfin
          go_wp2_with fail
          go_roundw
          case rel => exact ⟨k + 1, by omega, by go_num, HFIN.out⟩
          case measure => simp [intOf]; omega
    · obtain rfl : k = pn := by omega
      have e10 := HS.out.e.c10
      have hvl : ((pre1 c k).map (·.1)).length ≤ 4000 := by rw [List.length_map]; have := pre1_le c k; have := HPL.out; omega
      go_wp2_with fail
      have HI := Lib.hid (show InInts (wr.alloc (.cells #[.int .i64 (sn : Int)] 3)) (some ⟨wr.heap.size, 0, none⟩) 1 [(sn : Int)] from ints_lit wr [(sn : Int)] (by unfold maxLen; simp))
      have HF := Lib.hid (show Safe (wr.alloc (.cells #[.int .i64 (sn : Int)] 3)) (w.heap.size + 2) (w.heap.size + 1) (some ⟨wr.heap.size, 0, none⟩) 1 from HS.out.lit [(sn : Int)])
      have T1 := Lib.hid (HS.out.alloc (.cells #[.int .i64 (sn : Int)] 3))
      clear HS e10
      refine (writer_any T1.out.st HI.out HF.out _ (by simp at hvl ⊢; omega)).mono ?_
      rintro e y3 ⟨rfl, hs, hf⟩
      have hS5 : WrW c w (w.heap.size + 2) (w.heap.size + 1) w.heap.size pa k pc sa sn sc ((pre2 c 0).map (·.1)) y3 := by
        have hh := T1.out.put hs hf
        rw [show (pre2 c 0).map (·.1) = (pre1 c k).map (·.1) ++ [(sn : Int)] by unfold pre2; rw [HN.out, HM.out]; simp]
        exact hh
      have S5 := Lib.hid hS5
      clear hs hf T1 HI HF hS5
      have e10 := S5.out.e.c10
      go_wp2_with fail
      clear e10
      go_loopw [81] (fun i wr => WrS c w (w.heap.size + 2) (w.heap.size + 1) w.heap.size pa k pc sa sn sc i wr) (fun i _ => sn - (intOf i).toNat)
      case atStart => exact ⟨0, by omega, rfl, S5.out⟩
      case round =>
        obtain ⟨q, hq, rfl, hst⟩ := hrel
        have HS := Lib.hid hst
        clear hst S5
        by_cases hlq : q < sn
        · obtain ⟨x, o, u, v, rfl, he, _, hx, c0, c1, c2⟩ := HH.out.su.at_ hlq
          have HE := Lib.hid he
          have a0 := (HS.out.b.cell (p := x.add (q * 3)) (by rw [block_add]; exact hx)).trans c0
          have a1 := (HS.out.b.cell (p := ⟨(x.add (q * 3)).block, (x.add (q * 3)).off + 1, none⟩) (by show (x.add (q * 3)).block < _; rw [block_add]; exact hx)).trans c1
          have a2 := (HS.out.b.cell (p := ⟨(x.add (q * 3)).block, (x.add (q * 3)).off + 2, none⟩) (by show (x.add (q * 3)).block < _; rw [block_add]; exact hx)).trans c2
          have hvl2 : ((pre2 c q).map (·.1)).length ≤ 4000 := by rw [List.length_map]; have := pre2_le c q; have := HPL.out; omega
          have hsz : (wr.alloc (.cells #[.int .i64 o, .int .i64 u, .int .i64 v] 49)).heap.size = wr.heap.size + 1 := by simp
          have T0 := HS.out.alloc (.cells #[.int .i64 o, .int .i64 u, .int .i64 v] 49)
          have hin := ints_lit (wr.alloc (.cells #[.int .i64 o, .int .i64 u, .int .i64 v] 49)) [o, u, v] (by unfold maxLen; simp)
          have hsf := T0.lit [o, u, v]
          rw [hsz] at hin hsf
          have HI := Lib.hid (show InInts ((wr.alloc (.cells #[.int .i64 o, .int .i64 u, .int .i64 v] 49)).alloc (.cells #[.int .i64 o, .int .i64 u, .int .i64 v] 3)) (some ⟨wr.heap.size + 1, 0, none⟩) 3 [o, u, v] from hin)
          have HF := Lib.hid (show Safe ((wr.alloc (.cells #[.int .i64 o, .int .i64 u, .int .i64 v] 49)).alloc (.cells #[.int .i64 o, .int .i64 u, .int .i64 v] 3)) (w.heap.size + 2) (w.heap.size + 1) (some ⟨wr.heap.size + 1, 0, none⟩) 3 from hsf)
          have T1 := Lib.hid (T0.alloc (.cells #[.int .i64 o, .int .i64 u, .int .i64 v] 3))
          clear he c0 c1 c2 HS T0 hin hsf hsz
          go_wp2_with fail
          refine (writer_any T1.out.st HI.out HF.out _ (by rw [List.length_map]; omega)).mono ?_
          rintro e y4 ⟨rfl, hs, hf⟩
          have hfin : WrW c w (w.heap.size + 2) (w.heap.size + 1) w.heap.size pa k pc (some x) sn sc ((pre2 c (q + 1)).map (·.1)) y4 := by
            have hh := T1.out.put hs hf
            rw [pre2_step HE.out, List.map_append]
            exact hh
          have HFIN := Lib.hid hfin
          clear hfin hs hf T1 HI HF a0 a1 a2
          go_wp2_with fail
          go_roundw
          case rel => exact ⟨q + 1, by omega, by go_num, HFIN.out⟩
          case measure => simp [intOf]; omega
        · obtain rfl : q = sn := by omega
          have hall : (pre2 c q).map (·.1) = (puts c).map (·.1) := by rw [← HM.out, pre2_all c]
          obtain ⟨ov, hb, ho, hgB, hBs⟩ := HS.out.st
          rw [hall, ← byts_vals] at ho
          obtain ⟨bs, hbs⟩ : ∃ bs, byts c = bs := ⟨_, rfl⟩
          rw [hbs] at ho
          obtain ⟨m, hm⟩ : ∃ m, bs.length = m := ⟨_, rfl⟩
          obtain ⟨oa0, oc0, rfl, _⟩ := ho.form hm
          have HT0 := Lib.hid (show TrimB w (w.heap.size + 2) (w.heap.size + 1) bs wr from ⟨bs.length, oa0, oc0, Nat.le_refl _, by rw [hm]; exact hb, by rw [List.take_length, hm]; exact ho, fun j hj => by rw [List.getD_eq_getElem?_getD, List.getElem?_eq_none (by omega)]; rfl, HS.out.b⟩)
          have hml : m ≤ 4000 := by
            rw [← hm, ← hbs]
            unfold byts
            rw [List.length_map]
            exact HPL.out
          have HBS := Lib.hid hbs
          have HML := Lib.hid hm
          clear hb ho hall HS hbs hm hgB hBs
          go_wp2_with fail
          go_loopw [98] (fun _ wr => TrimB w (w.heap.size + 2) (w.heap.size + 1) bs wr) (fun _ u => lenAt u ⟨w.heap.size + 1, 0, none⟩)
          case atStart => exact HT0.out
          case round =>
            obtain ⟨d, oa, oc, hd, hb, ho, hz, hbw⟩ := hrel
            rw [HML.out] at hd
            have HB := Lib.hid hb
            have HO := Lib.hid ho
            have HZ := Lib.hid hz
            have HW := Lib.hid hbw
            have t1 : wr.cell? ⟨w.heap.size + 1, 0, none⟩ = some (.slice oa d oc) := hb.at_ 0
            have f1 := hb.free 0
            clear hb ho hz hbw HT0
            by_cases hd0 : d = 0
            · subst hd0
              go_wp2
              go_ret
              refine ⟨_, [], rfl, ?_, ⟨0, by simp, by simp, fun j hj => ?_, .inl rfl⟩, HW.out⟩
              · have := HO.out
                rw [List.take_zero] at this
                exact this.mono (by omega)
              · rw [HBS.out]
                exact HZ.out j hj
            · obtain ⟨d, rfl⟩ : ∃ d', d = d' + 1 := ⟨d - 1, by omega⟩
              obtain ⟨x, rfl, ho2, hcx, hoc, hxB⟩ := HO.out.pop (by rw [List.length_take, HML.out]; omega)
              have hgd : (bs.take (d + 1)).getD d 0 = bs.getD d 0 := by
                rw [List.getD_eq_getElem?_getD, List.getD_eq_getElem?_getD, List.getElem?_take, if_pos (by omega)]
              rw [hgd] at hcx
              have HO2 := Lib.hid ho2
              obtain ⟨z, hzz⟩ : ∃ z, bs.getD d 0 = z := ⟨_, rfl⟩
              rw [hzz] at hcx
              have HZZ := Lib.hid hzz
              clear ho2 hgd hzz
              by_cases hz0 : z = 0
              · subst hz0
                have hp := Blk.put HB.out 0 (.slice (some x) d oc)
                simp only [List.setIfInBounds_toArray, List.set_cons_zero] at hp
                have hrel : TrimB w (w.heap.size + 2) (w.heap.size + 1) bs (wr.setCell ⟨w.heap.size + 1, 0, none⟩ (.slice (some x) d oc)) := by
                  refine ⟨d, some x, oc, by rw [HML.out]; omega, hp, ?_, trim_step HZ.out HZZ.out, HW.out.setCell (by show w.heap.size ≤ w.heap.size + 1; omega) _⟩
                  have ho3 := HO2.out
                  rw [List.take_take, Nat.min_eq_left (by omega)] at ho3
                  refine OwnB.same ho3 fun y hy => Below.heap_setCell _ ⟨w.heap.size + 1, 0, none⟩ _ y ?_
                  have hyb : x.block = y := by simpa [Value.ownBlock] using hy
                  show y ≠ w.heap.size + 1
                  omega
                have hl1 : lenAt wr ⟨w.heap.size + 1, 0, none⟩ = d + 1 := by
                  unfold lenAt
                  rw [t1]
                have hl2 : lenAt (wr.setCell ⟨w.heap.size + 1, 0, none⟩ (.slice (some x) d oc)) ⟨w.heap.size + 1, 0, none⟩ = d := by
                  unfold lenAt
                  rw [show (wr.setCell ⟨w.heap.size + 1, 0, none⟩ (.slice (some x) d oc)).cell? ⟨w.heap.size + 1, 0, none⟩ = some (.slice (some x) d oc) from hp.at_ 0]
                have HREL := Lib.hid hrel
                have HL1 := Lib.hid hl1
                have HL2 := Lib.hid hl2
                clear hp hrel hl1 hl2
                go_wp2_with fail
                go_roundw
                case rel => exact HREL.out
                case measure =>
                  rw [HL1.out]
                  have := HL2.out
                  exact Nat.lt_of_le_of_lt (Nat.le_of_eq this) (Nat.lt_succ_self _)
              · have hzb : (z == 0) = false := by simpa using hz0
                have HZ0 := Lib.hid hz0
                clear hz0
                go_wp2
                go_ret
                refine ⟨_, bs.take (d + 1), rfl, HO.out.mono (by omega), ⟨d + 1, ?_, by rw [HBS.out], fun j hj => ?_, .inr ?_⟩, HW.out⟩
                · rw [HBS.out, HML.out]
                  omega
                · rw [HBS.out]
                  exact HZ.out j hj
                · rw [HBS.out]
                  intro e
                  apply HZ0.out
                  rw [← HZZ.out]
                  exact e
end Go.Proofs.Ytnpnamgeajifkaa
