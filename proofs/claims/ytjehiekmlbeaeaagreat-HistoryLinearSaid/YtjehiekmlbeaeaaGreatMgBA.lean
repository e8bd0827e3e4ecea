/-
  Stage 11, plain mathematics: the numbers of what is done are within the bounds of an int. No function is named.
  Stage 11: a plan of a law as it lies in memory.
  A drawn number, and the contract of the reference's Draw.
  Contract of the keep's Number.
  Stage 11: the plan of a law.
-/
import Derived.Test.YtjehiekmlbeaeaaGreatPlyB
import Derived.Test.YtjehiekmlbeaeaaGreatMgAZ
import Derived.Test.YtjehiekmlbeaeaaGreatMgAN
import Derived.Test.YtjehiekmlbeaeaaGreatMgAP
import Derived.Test.YtjehiekmlbeaeaaGreatRows
import Derived.WalkKit
import Derived.WalkSpells
import Derived.WalkLawsBesides
import Derived.Test.YtjehiekmlbeaeaaGreatMgAW
import Derived.Deep.QuietTactic
import Derived.BigQuiet
import Derived.Lib.Hide
import Derived.Test.YtjehiekmlbeaeaaGreatPlP
namespace Go.Proofs.YtjehiekmlbeaeaaGreat
open Go Go.RowKit
set_option linter.unusedSimpArgs false
set_option linter.unusedVariables false

abbrev In64 (x : Int) : Prop := -9223372036854775808 ≤ x ∧ x ≤ 9223372036854775807
theorem in64_0 : In64 0 := by unfold In64; omega
theorem in64_wrap (x : Int) : In64 (wrap64 x) := by unfold In64 wrap64; omega
theorem stepM_in (s : St) (m : Mach) : In64 (stepM s m).2.2.vl := by
  cases m with
  | no => exact in64_0
  | push f =>
    show In64 (pushS s f).2.2.vl
    unfold pushS
    split
    · exact in64_0
    split
    · split <;> exact in64_0
    split <;> exact in64_0
  | pop f =>
    show In64 (popS s f).2.2.vl
    unfold popS
    split
    · exact in64_0
    split
    · split <;> exact in64_0
    split
    · exact in64_0
    split
    · exact in64_0
    split
    · show In64 (IntKind.i64.wrap _)
      rw [wrapI]
      exact in64_wrap _
    split
    · exact in64_0
    split <;> exact in64_0
  | steal f =>
    show In64 (stealS s f).2.2.vl
    unfold stealS
    split
    · exact in64_0
    split
    · split <;> exact in64_0
    split
    · exact in64_0
    · show In64 (if s.hit f.qt f.fv then (⟨true, 1, wrap64 f.fw⟩ : Res) else ⟨true, 4, 0⟩).vl
      split
      · exact in64_wrap _
      · exact in64_0
def FitO (now : Nat) (o : OpR) : Prop := In64 o.v ∧ o.a ≤ now
structure FitS (S : PlS) : Prop where
  out : ∀ o, o ∈ S.out → FitO S.now o
  sn : ∀ j, (S.P.getD j .no).x.sn ≤ S.now
theorem FitO.mono {now : Nat} {o : OpR} (h : FitO now o) : FitO (now + 1) o := ⟨h.1, by have := h.2; omega⟩
theorem set_sn {P : List Plr} {n : Nat} (h : ∀ j, (P.getD j .no).x.sn ≤ (n : Int)) (i : Nat) {p : Plr} (hp : p.x.sn ≤ (n : Int)) : ∀ j, ((P.set i p).getD j .no).x.sn ≤ ((n + 1 : Nat) : Int) := by
  intro j
  by_cases e : i = j
  · subst e
    by_cases hi : i < P.length
    · rw [List.getD_eq_getElem?_getD, List.getElem?_set_self hi]
      show p.x.sn ≤ _
      omega
    · have := h i
      rw [List.getD_eq_getElem?_getD, List.getElem?_eq_none (by rw [List.length_set]; omega)]
      show (0 : Int) ≤ _
      omega
  · have := h j
    rw [List.getD_eq_getElem?_getD, List.getElem?_set_ne e, ← List.getD_eq_getElem?_getD]
    omega
theorem begP_sn (C : Int) (now : Nat) (p : Plr) (h : p.x.sn ≤ now) : (begP C now p).x.sn ≤ now := by
  unfold begP
  split
  · split
    · exact h
    · exact Int.le_refl _
  · exact h
theorem pick_fit {C : Int} {i : Nat} {S : PlS} (ok : AllOk S) (hi : i < S.P.length) (h : FitS S) : FitS (pickP C i S) := by
  have hp : PlOk i (begP C S.now (S.P.getD i .no)) := (begP_ok (ok i hi)).1
  have hs := begP_sn C S.now (S.P.getD i .no) (h.sn i)
  unfold pickP
  generalize begP C S.now (S.P.getD i .no) = p at *
  split
  · exact ⟨fun o ho => (h.out o ho).mono, fun j => by have := h.sn j; show (S.P.getD j .no).x.sn ≤ ((S.now + 1 : Nat) : Int); omega⟩
  · unfold stpP
    split
    · refine ⟨fun o ho => ?_, set_sn h.sn i hs⟩
      replace ho : o ∈ S.out ++ [recP i p.x S.now (stepM S.s p.x.m).2.2] := ho
      rcases List.mem_append.1 ho with ho | ho
      · exact (h.out o ho).mono
      · obtain rfl := List.mem_singleton.1 ho
        refine ⟨?_, ?_⟩
        · show In64 (if p.x.m.kind = 0 then p.x.vl else (stepM S.s p.x.m).2.2.vl)
          split
          · exact hp.vl
          · exact stepM_in _ _
        · show p.x.sn ≤ ((S.now + 1 : Nat) : Int)
          omega
    · exact ⟨fun o ho => (h.out o ho).mono, set_sn h.sn i hs⟩
theorem ends_fit {C : Int} {i : Nat} {S : PlS} {r : List OpR} (h : Ends C i S r) (ok : AllOk S) (hf : FitS S) (hn : S.now + S.todo ≤ 190000) : ∀ o, o ∈ r → FitO 190000 o := by
  induction h with
  | @over i S hl => exact fun o ho => ⟨(hf.out o ho).1, by have := (hf.out o ho).2; omega⟩
  | @rest i S r h1 h2 h3 ih => exact ih ok hf hn
  | @step i S r h1 h2 h3 ih =>
    obtain ⟨k1, k2, k3⟩ := pick_ok (C := C) ok h1
    obtain ⟨k4, k5, k6⟩ := pick_sum (C := C) ok h1
    have := k6 h2
    exact ih k1 (pick_fit ok h1 hf) (by omega)
theorem picks_fit {C : Int} {K : Nat} (l : List Int) (S : PlS) (ok : AllOk S) (hf : FitS S) (hK : S.P.length = K) (h0 : 0 < K) (hn : S.now + l.length + S.todo ≤ 190000) :
    AllOk (picksP C K l S) ∧ FitS (picksP C K l S) ∧ (picksP C K l S).now + (picksP C K l S).todo ≤ 190000 := by
  induction l generalizing S with
  | nil => exact ⟨ok, hf, by show S.now + S.todo ≤ 190000; simp only [List.length_nil] at hn; omega⟩
  | cons p l ih =>
    have hp : (p.emod K).toNat < S.P.length := by
      have h1 := Int.emod_nonneg p (show (K : Int) ≠ 0 by omega)
      have h2 := Int.emod_lt_of_pos p (show (0 : Int) < (K : Int) by omega)
      have h3 : p.emod K = p % K := rfl
      omega
    obtain ⟨k1, k2, k3⟩ := pick_ok (C := C) ok hp
    obtain ⟨k4, k5, k6⟩ := pick_sum (C := C) ok hp
    simp only [List.length_cons] at hn
    exact ih (pickP C (p.emod K).toNat S) k1 (pick_fit ok hp hf) (by omega) (by omega)
theorem plays_fit {C : Int} {s : St} {plan : List (List ActR)} {picks : List Int} {r : List OpR} (h : Plays s C plan picks r) (hi : PlanIn plan) (hn : picks.length + (PlS.first s plan).todo ≤ 190000) : ∀ o, o ∈ r → FitO 190000 o := by
  unfold Plays at h
  split at h
  · subst h
    exact fun o ho => by cases ho
  · rename_i hp
    have h0 : 0 < plan.length := by
      cases plan with
      | nil => exact absurd rfl hp
      | cons a l => simp
    have hf : FitS (PlS.first s plan) := by
      refine ⟨fun o ho => (by cases ho), fun j => ?_⟩
      show ((plrs plan).getD j .no).x.sn ≤ _
      by_cases hj : j < plan.length
      · rw [plrs_at plan j hj]
        exact Int.le_refl _
      · rw [List.getD_eq_getElem?_getD, List.getElem?_eq_none (by rw [plrs_len]; omega)]
        exact Int.le_refl _
    obtain ⟨k1, k2, k3⟩ := picks_fit picks _ (first_ok s hi) hf (plrs_len plan) h0 (by show 0 + _ + _ ≤ _; omega)
    exact ends_fit h k1 k2 k3
theorem fit_lin {r : List OpR} (h : ∀ o, o ∈ r → FitO 190000 o) : ∀ o, o ∈ r → (Lit.int .i64 o.v).wf = true ∧ o.a ≤ 9223372036854775807 := by
  intro o ho
  obtain ⟨⟨h1, h2⟩, h3⟩ := h o ho
  refine ⟨?_, by omega⟩
  have e0 : IntKind.i64.min = -9223372036854775808 := rfl
  have e1 : IntKind.i64.max = 9223372036854775807 := rfl
  simp only [Lit.wf, Bool.and_eq_true, decide_eq_true_eq, e0, e1]
  exact ⟨h1, h2⟩
end Go.Proofs.YtjehiekmlbeaeaaGreat

namespace Go.Proofs.YtjehiekmlbeaeaaGreat
open Go Go.RowKit Go.Shelf
set_option linter.unusedSimpArgs false
set_option linter.unusedVariables false

/-- Lists of acts, each in a block of the call's own. -/
structure PO (w0 w : World) (ob K : Nat) (P : List (List ActR)) (V : List Value) : Prop where
  blk : Blk w ob 136 V.toArray
  lp : P.length = K
  lv : V.length = K
  own : ∀ i, i < K → OwnG w w0.heap.size 138 2 (V.getD i undef) ((P.getD i []).map actL)
  di : ∀ i j b, i < K → j < K → (V.getD i undef).ownBlock = some b → (V.getD j undef).ownBlock = some b → i = j
  lo : w0.heap.size ≤ ob
  b : Below w0.heap.size w0 w
section
variable {w0 w w' : World} {ob K : Nat} {P : List (List ActR)} {V : List Value}
theorem PO.below (h : PO w0 w ob K P V) (hb : Below w.heap.size w w') : PO w0 w' ob K P V :=
  ⟨h.blk.below hb, h.lp, h.lv, fun i hi => (h.own i hi).below hb, h.di, h.lo, h.b.trans (hb.mono h.b.size)⟩
theorem PO.cell (h : PO w0 w ob K P V) {i : Nat} (hi : i < K) : w.cell? ⟨ob, i, none⟩ = some (V.getD i undef) := by
  rw [h.blk.at_, List.getElem?_toArray, List.getD_eq_getElem?_getD, List.getElem?_eq_getElem (by rw [h.lv]; exact hi)]
  rfl
theorem PO.next {i : Nat} {v' : Value} {a : ActR} (h : PO w0 w ob K P V) (hi : i < K) (hg : w.grownBy w' (V.getD i undef).ownBlock) (ho : OwnG w' w0.heap.size 138 2 v' ((P.getD i []).map actL ++ [actL a]))
    (hn : v'.ownBlock = (V.getD i undef).ownBlock ∨ v'.ownBlock = some w.heap.size) :
    PO w0 (w'.setCell ⟨ob, i, none⟩ v') ob K (P.set i (P.getD i [] ++ [a])) (V.set i v') := by
  have hob : ob ∉ (V.getD i undef).ownBlock.toList := fun hm => by
    rw [Option.mem_toList] at hm
    obtain ⟨cur, hc⟩ := (h.own i hi).ty ob hm
    exact absurd rfl (h.blk.apart hc (by decide))
  have hf1 : Fr (V.getD i undef).ownBlock.toList w w' := ⟨hg.os, hg.tape, hg.output, hg.size, fun k hk hn => hg.block k hk (fun e => hn (by first | (rw [Option.mem_toList]; exact e) | (rw [Option.mem_toList]; exact e.symm)))⟩
  have hf2 : Fr (ob :: (V.getD i undef).ownBlock.toList) w (w'.setCell ⟨ob, i, none⟩ v') := (hf1.mono (fun k hk => List.mem_cons_of_mem _ hk)).setCell (.inl (by simp)) v'
  have hblk : Blk w' ob _ _ := h.blk.of_same (hf1.block ob h.blk.lt hob)
  have eV : ∀ j, j ≠ i → (V.set i v').getD j undef = V.getD j undef := fun j hj => by
    simp only [List.getD_eq_getElem?_getD]
    rw [List.getElem?_set_ne (fun e => hj e.symm)]
  have eV2 : (V.set i v').getD i undef = v' := by
    rw [List.getD_eq_getElem?_getD, List.getElem?_set_self (by rw [h.lv]; exact hi)]
    rfl
  have eP : ∀ j, j ≠ i → (P.set i (P.getD i [] ++ [a])).getD j [] = P.getD j [] := fun j hj => by
    simp only [List.getD_eq_getElem?_getD]
    rw [List.getElem?_set_ne (fun e => hj e.symm)]
  have eP2 : (P.set i (P.getD i [] ++ [a])).getD i [] = P.getD i [] ++ [a] := by
    rw [List.getD_eq_getElem?_getD, List.getElem?_set_self (by rw [h.lp]; exact hi)]
    rfl
  have fresh : ∀ j b, j < K → j ≠ i → (V.getD j undef).ownBlock = some b → v'.ownBlock = some b → False := fun j b hj hji h1 h2 => by
    rcases hn with e | e
    · exact hji (h.di j i b hj hi h1 (e ▸ h2))
    · have := ((h.own j hj).lt b h1).2
      rw [h2] at e
      have := Option.some.inj e
      omega
  have tyne : ∀ {x : Value} {R : List (List Value)} {wx : World} {cs : Array Value}, OwnG wx w0.heap.size 138 2 x R → Blk wx ob 136 cs → ∀ b, x.ownBlock = some b → b ≠ ob := fun hx hb b he e => by
    obtain ⟨cur, hc⟩ := hx.ty b he
    subst e
    exact absurd rfl (hb.apart hc (by decide))
  refine ⟨?_, by rw [List.length_set]; exact h.lp, by rw [List.length_set]; exact h.lv, fun j hj => ?_, fun j k b hj hk h1 h2 => ?_, h.lo, below_of_fr h.b hf2 (fun y hy => ?_)⟩
  · have := hblk.put i v'
    simpa using this
  · by_cases e : j = i
    · subst e
      rw [eV2, eP2, List.map_append]
      exact ho.same (fun b hb => Below.heap_setCell _ _ _ _ (tyne ho hblk b hb))
    · rw [eV j e, eP j e]
      refine (h.own j hj).same (fun b hb => ?_)
      have hlt := ((h.own j hj).lt b hb).2
      refine hf2.block b hlt (fun hm => ?_)
      rcases List.mem_cons.1 hm with e1 | e1
      · exact tyne (h.own j hj) h.blk b hb e1
      · rw [Option.mem_toList] at e1
        exact e (h.di j i b hj hi hb e1)
  · by_cases e1 : j = i
    · by_cases e2 : k = i
      · rw [e1, e2]
      · subst e1
        rw [eV2] at h1
        rw [eV k e2] at h2
        exact (fresh k b hk e2 h2 h1).elim
    · rw [eV j e1] at h1
      by_cases e2 : k = i
      · subst e2
        rw [eV2] at h2
        exact (fresh j b hj e1 h1 h2).elim
      · rw [eV k e2] at h2
        exact h.di j k b hj hk h1 h2
  · rcases List.mem_cons.1 hy with e | e
    · rw [e]; exact h.lo
    · rw [Option.mem_toList] at e
      exact ((h.own i hi).lt y e).1
theorem PO.made (hb : Below w0.heap.size w0 w) (K : Nat) : PO w0 (w.alloc (.cells (madeCells #[.slice none 0 0] K) 136)) w.heap.size K (List.replicate K []) (List.replicate K (.slice none 0 0)) := by
  have eV : ∀ i, i < K → (List.replicate K (Value.slice none 0 0)).getD i undef = .slice none 0 0 := fun i hi => by
    rw [List.getD_eq_getElem?_getD, List.getElem?_replicate, if_pos hi]
    rfl
  have eP : ∀ i, (List.replicate K ([] : List ActR)).getD i [] = [] := fun i => by
    rw [List.getD_eq_getElem?_getD, List.getElem?_replicate]
    split <;> rfl
  refine ⟨?_, List.length_replicate, List.length_replicate, fun i hi => ?_, fun i j b hi hj h1 h2 => ?_, hb.size, hb.trans ((below_one ..).mono hb.size)⟩
  · have := Blk.made w 136 (madeCells #[.slice none 0 0] K)
    have e : madeCells #[Value.slice none 0 0] K = (List.replicate K (Value.slice none 0 0)).toArray := by
      refine Array.ext (by simp [madeCells]) (fun i h1 h2 => ?_)
      simp [madeCells, Nat.mod_one]
    rw [e] at this ⊢
    exact this
  · rw [eV i hi, eP i]
    exact OwnG.nil ..
  · rw [eV i hi] at h1
    cases h1
end
end Go.Proofs.YtjehiekmlbeaeaaGreat

namespace Go.Proofs.YtjehiekmlbeaeaaGreat
open Go Go.RowKit

/-- The number from 0 to n - 1 that differs from d by a multiple of n; 0 if n is less than 1. -/
def drw (d n : Int) : Int := if n < 1 then 0 else if d.tmod n < 0 then d.tmod n + n else d.tmod n
theorem drw_low (d n : Int) (h : n < 1) : drw d n = 0 := if_pos h
theorem drw_neg (d n : Int) (h : ¬ n < 1) (h' : d.tmod n < 0) : drw d n = d.tmod n + n := by rw [drw, if_neg h, if_pos h']
theorem drw_pos (d n : Int) (h : ¬ n < 1) (h' : ¬ d.tmod n < 0) : drw d n = d.tmod n := by rw [drw, if_neg h, if_neg h']
theorem tmod_in (d n : Int) (h : ¬ n < 1) : -n < d.tmod n ∧ d.tmod n < n := by
  have h1 := Int.tmod_lt_of_pos d (show 0 < n by omega)
  have h2 := Int.lt_tmod_of_pos d (show 0 < n by omega)
  omega
theorem drw_in (d n : Int) (h : 1 ≤ n) : 0 ≤ drw d n ∧ drw d n < n := by
  have hr := tmod_in d n (by omega)
  unfold drw
  rw [if_neg (by omega)]
  split <;> omega
theorem drw_self (d n : Int) (h : 0 ≤ d) (h' : d < n) : drw d n = d := by
  unfold drw
  rw [if_neg (by omega), Int.tmod_eq_of_lt h h', if_neg (by omega)]

theorem rdraw_any (d n : Int) (hn : n ≤ 9223372036854775807) (w : World) :
    Calls Tryz.prog 16 #[.int .i64 d, .int .i64 n] w fun e w' => e = .returned (.int .i64 (drw d n)) ∧ w = w' := by
  by_cases h : n < 1
  · rw [drw_low d n h]
    clear hn
    go_enter Tryz.func16, Tryz.ntmps16
    go_wp2
    go_ret
    exact ⟨rfl, rfl⟩
  · have hr := tmod_in d n h
    by_cases h' : d.tmod n < 0
    · rw [drw_neg d n h h']
      generalize hg : d.tmod n = r at *
      go_enter Tryz.func16, Tryz.ntmps16
      go_wp2
      go_ret
      exact ⟨rfl, rfl⟩
    · rw [drw_pos d n h h']
      generalize hg : d.tmod n = r at *
      have h'' : 0 ≤ r := by omega
      go_enter Tryz.func16, Tryz.ntmps16
      go_wp2
      go_ret
      exact ⟨rfl, rfl⟩
end Go.Proofs.YtjehiekmlbeaeaaGreat

namespace Go.Proofs.YtjehiekmlbeaeaaGreat
open Go Go.RowKit

/-- A number from 0 to n - 1, behind some draws. -/
def NumR (n : Int) (w : World) (e : Ending) (w' : World) : Prop := ∃ y : Nat, (y : Int) < n ∧ e = .returned (.int .i64 y) ∧ ∃ m, w' = w.drewN m

set_option maxHeartbeats 1000000 in
theorem keepnum_any {w : World} {a : Option Addr} {L : Nat} {zs : List Int} (h : InInts w a L zs) (c k : Nat) (hk : k ≤ 1000000) (n : Int) (hn : 1 ≤ n) (hn' : n ≤ 1000000) :
    Calls Tryz.prog 25 #[.slice a L c, .int .i64 k, .int .i64 n] w (NumR n w) := by
  have hmax := h.2.1
  unfold maxLen at hmax
  by_cases hL : L = 0
  · subst hL
    clear h
    go_enter Tryz.func25, Tryz.ntmps25
    go_wp2
    go_ret
    exact ⟨0, by omega, rfl, 0, rfl⟩
  · have hL0 : ((L : Int) == 0) = false := by simp; omega
    have hL1 : (1 : Int) ≤ L := by omega
    have hm : k % L < L := Nat.mod_lt _ (by omega)
    obtain ⟨x, rfl, _, hc⟩ := h.2.2 (k % L) hm
    generalize zs.getD (k % L) 0 = z at hc
    clear h hL
    have hq := fun (d : Int) (u : World) => (rdraw_any d n (by omega) u).mono (fun e w' (h : e = .returned (.int .i64 (drw d n)) ∧ u = w') => (⟨h.1, h.2.symm⟩ : e = .returned (.int .i64 (drw d n)) ∧ w' = u))
    have hmi : (k : Int) % (L : Int) < (L : Int) := Int.emod_lt_of_pos _ (by omega)
    have hmi0 : 0 ≤ (k : Int) % (L : Int) := Int.emod_nonneg _ (by omega)
    have hd0 : 0 ≤ (k : Int) / (L : Int) := Int.ediv_nonneg (by omega) (by omega)
    have hd1 : (k : Int) / (L : Int) ≤ k := Int.ediv_le_self _ (by omega)
    have e0 : 0 ≤ (k : Int) / (L : Int) % 7 := Int.emod_nonneg _ (by omega)
    have e1 : (k : Int) / (L : Int) % 7 < 7 := Int.emod_lt_of_pos _ (by omega)
    go_enter Tryz.func25, Tryz.ntmps25
    go_wp2_with fail
    go_quiet ((go_at_call 16; exact Calls.quiet_of_same (hq _ _)))
    obtain ⟨g0, g1⟩ := drw_in (wrap64 (z.tdiv (1 + (k : Int) / (L : Int) % 7))) n hn
    generalize drw (wrap64 (z.tdiv (1 + (k : Int) / (L : Int) % 7))) n = y at *
    obtain ⟨y, rfl⟩ : ∃ u : Nat, y = (u : Int) := ⟨y.toNat, by omega⟩
    go_wp2
    go_ret
    exact ⟨y, g1, rfl, _, rfl⟩

end Go.Proofs.YtjehiekmlbeaeaaGreat

namespace Go.Proofs.YtjehiekmlbeaeaaGreat
open Go Go.RowKit Go.Shelf
set_option linter.unusedSimpArgs false
set_option linter.unusedVariables false

theorem make_plan (w : World) (n : Nat) (hn : n ≤ 100) :
    (Instr.makeSlice 69 (.int .i64 (n : Int)) (.int .i64 (n : Int))).run Tryz.prog w = .ok (.slice (some ⟨w.heap.size, 0, none⟩) n n) (w.alloc (.cells (madeCells #[.slice none 0 0] n) 136)) := by
  obtain ⟨i0, hi, hz0, hz1, hz2⟩ := info_partsG (show (Tryz.prog.info? 136).map (fun i => (i.zero, i.size, i.bytes)) = some (some (.slice none 0 0), 1, 24) by kernel_rfl)
  have hr := run_make (P := Tryz.prog) w 69 136 i0 _ Tryz.underlying69 hi hz0 .i64 .i64 n n (by omega) (Int.le_refl _) (by rw [hz2]; omega) (by omega)
  simp only [Int.toNat_natCast, hz1, Nat.mul_one] at hr
  exact hr
theorem PlnOk.le {c s : Nat} {P : List (List ActR)} (h : PlnOk c P) (hs : s < P.length) : (P.getD s []).length ≤ c := by
  have h1 := sumN_set (P.map List.length) s 0 (by rw [List.length_map]; exact hs)
  rw [getD_map List.length P s [] 0 rfl, h.sum] at h1
  omega
theorem PO.grown {w0 w w' : World} {ob K i : Nat} {P : List (List ActR)} {V : List Value} {v : Value} (h : PO w0 w ob K P V) (hi : i < K) (hv : V.getD i undef = v) (hg : w.grownBy w' v.ownBlock) : w'.cell? ⟨ob, i, none⟩ = some v ∧ w'.frozen? ⟨ob, i, none⟩ = false := by
  subst hv
  have hb : Blk w' ob _ _ := h.blk.of_same (hg.block ob h.blk.lt (fun e => by
    obtain ⟨cur, hc⟩ := (h.own i hi).ty ob (by first | exact e | exact e.symm)
    exact absurd rfl (h.blk.apart hc (by decide))))
  refine ⟨?_, hb.free i⟩
  rw [hb.at_, List.getElem?_toArray, List.getD_eq_getElem?_getD, List.getElem?_eq_getElem (by rw [h.lv]; exact hi)]
  rfl
theorem plnok0 (K : Nat) : PlnOk (1 - 1) (List.replicate K []) := by
  have e : ∀ i, (List.replicate K ([] : List ActR)).getD i [] = [] := fun i => by
    rw [List.getD_eq_getElem?_getD, List.getElem?_replicate]
    split <;> rfl
  refine ⟨fun i a hi ha => ?_, fun i a ha => ?_, sumN_zero (fun i hi => ?_)⟩
  · rw [e] at ha; cases ha
  · rw [e] at ha; cases ha
  · rw [getD_map List.length _ i [] 0 rfl, e]; rfl
end Go.Proofs.YtjehiekmlbeaeaaGreat
