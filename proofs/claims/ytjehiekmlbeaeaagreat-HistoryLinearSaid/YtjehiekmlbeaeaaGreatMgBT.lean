/-
  Stage 11: the reference's act, whatever the player; can.
  Stage 11: the reference's game while it is played.
  Stage 11: the reference's game while its players are made. No function is named.
  The reference's environment with less below it. No function is named.
-/
import Derived.Test.YtjehiekmlbeaeaaGreatRpC
import Derived.Test.YtjehiekmlbeaeaaGreatMgAW
import Derived.Test.YtjehiekmlbeaeaaGreatMgBK
namespace Go.Proofs.YtjehiekmlbeaeaaGreat
open Go Go.RowKit Go.Shelf
set_option linter.unusedSimpArgs false
set_option linter.unusedVariables false
/-- What act gives. -/
def ActQ (w0 w : World) (p bp K : Nat) (S T : PlS) (e : Ending) (w' : World) : Prop :=
  ∃ b r, e = .returned (.tuple #[.agg (opC r), .bool b]) ∧ GRX w0 p bp K T.s T.P w' ∧ T.out = S.out ++ (if b = true then [r] else []) ∧ KeepN w.heap.size w w'
theorem ract_any {w0 w : World} {p bp K i : Nat} {C : Int} {S : PlS} (hx : GRX w0 p bp K S.s S.P w) (hi : i < K) (ok : PlOk i (S.P.getD i .no)) (hC : C ≤ 100) :
    Calls Tryz.prog 68 #[.pointer (some ⟨p, 0, none⟩), qv 0 1 2 C, .pointer (some ⟨bp, i * 5, none⟩), .int .i64 i, .int .i64 S.now] w (ActQ w0 w p bp K S (pickP C i S)) := by
  obtain ⟨a, q, row, h⟩ := hx
  cases hb : (begP C S.now (S.P.getD i .no)).x.m.idle with
  | false =>
    refine (ract_go h hi ok hC hb).mono ?_
    rintro e w' ⟨b, r, rfl, h1, h2, h3⟩
    have e1 : pickP C i S = ⟨(stpR i (begP C S.now (S.P.getD i .no)) S).s, (stpR i (begP C S.now (S.P.getD i .no)) S).P, S.now + 1, (stpR i (begP C S.now (S.P.getD i .no)) S).out⟩ := by
      unfold pickP
      rw [if_neg (by rw [hb]; decide)]
      unfold stpP stpR
      split <;> rfl
    exact ⟨b, r, rfl, by rw [e1]; exact h1, by rw [e1]; exact h2, h3⟩
  | true =>
    have hid : (S.P.getD i .no).x.m.idle = true := by
      cases hm : (S.P.getD i .no).x.m.idle with
      | true => rfl
      | false => rw [begP_on hm, hm] at hb; cases hb
    have hac : (S.P.getD i .no).acts = [] := by
      cases ha : (S.P.getD i .no).acts with
      | nil => rfl
      | cons t r =>
        rw [begP_next hid ha] at hb
        rw [show (Mach.idle (actM C t)) = false from actM_live C t] at hb
        cases hb
    have hpl := h.pl i hi
    obtain ⟨ad, c, h0, _⟩ := hpl.ac.form
    rw [hac] at h0
    refine (ract_rest h.pb hi h0 (hpl.off (Mach.idle_iff.1 hid))).mono ?_
    rintro e w' ⟨rfl, hbl⟩
    have e1 : pickP C i S = { S with now := S.now + 1 } := by
      unfold pickP
      rw [if_pos hb]
    refine ⟨false, ⟨0, 0, 0, 0, 0, 0⟩, rfl, by rw [e1]; exact ⟨_, _, _, h.below hbl⟩, by rw [e1]; simp, .of_below hbl⟩
set_option maxRecDepth 100000 in
set_option maxHeartbeats 4000000 in
theorem rcan_any (i : Nat) (t : ActR) (w : World) : Calls Tryz.prog 67 #[.int .i64 i, .agg #[.int .i64 t.k, .int .i64 t.v]] w fun e w' => e = .returned (.bool (canR i t)) ∧ Below w.heap.size w w' := by
  obtain ⟨k, v⟩ := t
  have hX := Blk.made w 138 #[.int .i64 k, .int .i64 v]
  have x0 := hX.at_ 0
  have HB := Lib.hid (below_one w (.cells #[.int .i64 k, .int .i64 v] 138))
  unfold canR
  clear hX
  by_cases h0 : i = 0
  · subst h0
    by_cases h1 : k = 0
    · subst h1
      go_enter Tryz.func67, Tryz.ntmps67
      go_upto_region 2 with fail
      generalize w.alloc (.cells #[.int .i64 0, .int .i64 v] 138) = W at *
      have x0 : W.cell? ⟨w.heap.size, 0, none⟩ = some (.int .i64 0) := x0
      go_wp2_with fail
      go_ret
      exact ⟨rfl, HB.out⟩
    · have h2 : (k == 0) = false := by simpa using h1
      go_enter Tryz.func67, Tryz.ntmps67
      go_upto_region 2 with fail
      generalize w.alloc (.cells #[.int .i64 k, .int .i64 v] 138) = W at *
      have x0 : W.cell? ⟨w.heap.size, 0, none⟩ = some (.int .i64 k) := x0
      go_wp2_with fail
      go_ret
      exact ⟨by simp [h2], HB.out⟩
  · have h0' : ((i : Int) == 0) = false := by simp; omega
    go_enter Tryz.func67, Tryz.ntmps67
    go_upto_region 3 with fail
    generalize w.alloc (.cells #[.int .i64 k, .int .i64 v] 138) = W at *
    have x0 : W.cell? ⟨w.heap.size, 0, none⟩ = some (.int .i64 k) := x0
    go_wp2_with fail
    go_ret
    exact ⟨by simp [h0], HB.out⟩
end Go.Proofs.YtjehiekmlbeaeaaGreat

namespace Go.Proofs.YtjehiekmlbeaeaaGreat
open Go Go.RowKit Go.Shelf
set_option linter.unusedSimpArgs false
set_option linter.unusedVariables false
/-- The game, its queue's block, what is done. -/
structure RG (w0 w : World) (p bp K C qb : Nat) (ov : Value) (S : PlS) : Prop where
  gr : GRX w0 p bp K S.s S.P w
  q : Blk w qb 91 (qcells 0 1 2 C)
  out : OwnG w w0.heap.size 80 6 ov (S.out.map opL)
  ok : AllOk S
  len : S.P.length = K
  cnt : S.cnt ≤ 900000
section
variable {w0 w w' w2 : World} {p bp K C qb i : Nat} {ov ov' : Value} {S T : PlS}
theorem GRX.below {s : St} {P : List Plr} (h : GRX w0 p bp K s P w) (hb : Below w.heap.size w w') : GRX w0 p bp K s P w' := by
  obtain ⟨a, q, row, h⟩ := h
  exact ⟨a, q, row, h.below hb⟩
theorem GRX.b {s : St} {P : List Plr} (h : GRX w0 p bp K s P w) : Below w0.heap.size w0 w := by
  obtain ⟨a, q, row, h⟩ := h
  exact h.b
theorem RG.below (h : RG w0 w p bp K C qb ov S) (hb : Below w.heap.size w w') : RG w0 w' p bp K C qb ov S := ⟨h.gr.below hb, h.q.below hb, h.out.below hb, h.ok, h.len, h.cnt⟩
theorem RG.outs (h : RG w0 w p bp K C qb ov S) : S.out.length ≤ 900000 := by
  have := h.cnt
  unfold PlS.cnt at this
  omega
/-- The game behind an act, its record not taken down. -/
structure RH (w0 w : World) (p bp K C qb : Nat) (ov : Value) (L : List OpR) (T : PlS) : Prop where
  gr : GRX w0 p bp K T.s T.P w
  q : Blk w qb 91 (qcells 0 1 2 C)
  out : OwnG w w0.heap.size 80 6 ov (L.map opL)
  ok : AllOk T
  len : T.P.length = K
  cnt : T.cnt ≤ 900000
theorem RH.below {L : List OpR} (h : RH w0 w p bp K C qb ov L T) (hb : Below w.heap.size w w') : RH w0 w' p bp K C qb ov L T := ⟨h.gr.below hb, h.q.below hb, h.out.below hb, h.ok, h.len, h.cnt⟩
theorem RH.none (h : RH w0 w p bp K C qb ov T.out T) : RG w0 w p bp K C qb ov T := ⟨h.gr, h.q, h.out, h.ok, h.len, h.cnt⟩
/-- Its record has been appended. -/
theorem RH.app {L : List OpR} {r : OpR} (h : RH w0 w p bp K C qb ov L T) (e : T.out = L ++ [r]) (ho : OwnG w' w0.heap.size 80 6 ov' (L.map opL ++ [opL r])) (hg : w.grownBy w' ov.ownBlock) : RG w0 w' p bp K C qb ov' T := by
  have hf : Fr ov.ownBlock.toList w w' := ⟨hg.os, hg.tape, hg.output, hg.size, fun k hk hn => hg.block k hk (fun e => hn (by simp [← e]))⟩
  have hno : ∀ {b : Nat} {t : TypeId} {cs : Array Value}, Blk w b t cs → t ≠ 80 → b ∉ ov.ownBlock.toList := fun {b t cs} hb ht hm => by
    rw [Option.mem_toList] at hm
    obtain ⟨cur, hc⟩ := h.out.ty b hm
    exact absurd rfl (hb.apart hc ht)
  refine ⟨?_, h.q.of_same (hf.block qb h.q.lt (hno h.q (by decide))), ?_, h.ok, h.len, h.cnt⟩
  · obtain ⟨a, q, row, hgr⟩ := h.gr
    cases hov : ov.ownBlock with
    | none => exact ⟨a, q, row, hgr.below (by rw [hov] at hf; exact hf.below (Nat.le_refl _) (fun k hk => by simp at hk))⟩
    | some b =>
      obtain ⟨cur, hc⟩ := h.out.ty b hov
      exact ⟨a, q, row, hgr.off hc (h.out.lt b hov).1 (by rw [hov] at hf; simpa using hf)⟩
  · rw [e, List.map_append]
    exact ho
/-- A record of the call's own is written. -/
theorem RH.row {L : List OpR} {b : Nat} {cs : Array Value} (h : RH w0 w p bp K C qb ov L T) (hb : Blk w b 80 cs) (hl : w0.heap.size ≤ b) (hn : ∀ k, ov.ownBlock = some k → k ≠ b) (cs' : Array Value) : RH w0 (w.setRow b cs') p bp K C qb ov L T := by
  obtain ⟨a, q, row, hg⟩ := h.gr
  have hf := fr_row8 w b cs'
  exact ⟨⟨a, q, row, hg.off hb hl hf⟩, h.q.of_same (hf.block qb h.q.lt (by simpa using h.q.apart hb (by decide))), h.out.same (fun k hk => hf.block k (h.out.lt k hk).2 (by simpa using hn k hk)), h.ok, h.len, h.cnt⟩
/-- An act of player i. -/
theorem RG.act (h : RG w0 w p bp K C qb ov S) (hi : i < K) (hC : (C : Int) ≤ 100) :
    Calls Tryz.prog 68 #[.pointer (some ⟨p, 0, none⟩), qv 0 1 2 C, .pointer (some ⟨bp, i * 5, none⟩), .int .i64 i, .int .i64 S.now] w fun e w' => ∃ b r, e = .returned (.tuple #[.agg (opC r), .bool b]) ∧ RH w0 w' p bp K C qb ov S.out (pickP C i S) ∧ (pickP C i S).out = S.out ++ (if b = true then [r] else []) ∧ KeepN w.heap.size w w' := by
  have hl : i < S.P.length := by rw [h.len]; exact hi
  refine (ract_any h.gr hi (h.ok i hl) hC).mono ?_
  rintro e w' ⟨b, r, rfl, h1, h2, h3⟩
  obtain ⟨k1, k2, _⟩ := pick_ok (C := (C : Int)) h.ok hl
  refine ⟨b, r, rfl, ⟨h1, h3 qb _ _ h.q.lt h.q (by decide) (by decide) (by decide) (by decide) (by decide) (by decide) (by decide), h.out.same (fun x hx => ?_), k1, by rw [k2, h.len], by rw [(pick_sum (C := (C : Int)) h.ok hl).1]; exact h.cnt⟩, h2, h3⟩
  obtain ⟨cur, hc⟩ := h.out.ty x hx
  have := h3 x _ _ hc.lt hc (by decide) (by decide) (by decide) (by decide) (by decide) (by decide) (by decide)
  exact this.trans hc.symm
end
end Go.Proofs.YtjehiekmlbeaeaaGreat

namespace Go.Proofs.YtjehiekmlbeaeaaGreat
open Go Go.RowKit Go.Shelf
set_option linter.unusedSimpArgs false
set_option linter.unusedVariables false
/-- A new player's row. -/
abbrev rowA (va : Value) : List Value := [va, .pointer none, .int .i64 0, .int .i64 0, .int .i64 (-1)]
theorem rowA_ok (a : Option Addr) (l c : Nat) : (rowA (.slice a l c)).length = 5 ∧ ∀ u, u ∈ rowA (.slice a l c) → u.oneCell' = true := ⟨rfl, fun u hu => by
  simp only [rowA, List.mem_cons, List.not_mem_nil, or_false] at hu
  rcases hu with rfl | rfl | rfl | rfl | rfl <;> rfl⟩
theorem info_actor : (Tryz.prog.info? 149).map (fun i => (i.zero, i.size, i.bytes)) = some (some (.agg #[.slice none 0 0, .pointer none, .int .i64 0, .int .i64 0, .int .i64 0]), 5, 56) := by kernel_rfl
/-- The game while its players are made. -/
structure BR (w0 w : World) (p C qb i n : Nat) (plan : List (List ActR)) (V : List Value) (pv : Value) : Prop where
  e : ∃ a, EnvF w0.heap.size w p a (St.new n) [] []
  q : Blk w qb 91 (qcells 0 1 2 C)
  pl : OwnG w w0.heap.size 149 5 pv (V.map rowA)
  len : V.length = i
  ac : ∀ j, j < i → AcR w w0.heap.size (V.getD j undef) ((plan.getD j []).filter (canR j))
  b : Below w0.heap.size w0 w
section
variable {w0 w w' : World} {p C qb i n : Nat} {plan : List (List ActR)} {V : List Value} {pv : Value}
theorem BR.below (h : BR w0 w p C qb i n plan V pv) (hb : Below w.heap.size w w') : BR w0 w' p C qb i n plan V pv := by
  obtain ⟨a, he⟩ := h.e
  exact ⟨⟨a, he.below hb⟩, h.q.below hb, h.pl.below hb, h.len, fun j hj => (h.ac j hj).below hb, h.b.trans (hb.mono h.b.size)⟩
/-- The next player is made. -/
theorem BR.next {pv' u : Value} (h : BR w0 w p C qb i n plan V pv) (hu : AcR w w0.heap.size u ((plan.getD i []).filter (canR i))) (hg : w.grownBy w' pv.ownBlock) (ho : OwnG w' w0.heap.size 149 5 pv' (V.map rowA ++ [rowA u])) :
    BR w0 w' p C qb (i + 1) n plan (V ++ [u]) pv' := by
  have hob : ∀ {b : Nat} {t : TypeId} {cs : Array Value}, Blk w b t cs → t ≠ 149 → b ∉ pv.ownBlock.toList := fun {b t cs} hb ht hm => by
    rw [Option.mem_toList] at hm
    obtain ⟨cur, hc⟩ := h.pl.ty b hm
    exact absurd rfl (hb.apart hc ht)
  have hf1 : Fr pv.ownBlock.toList w w' := ⟨hg.os, hg.tape, hg.output, hg.size, fun k hk hn => hg.block k hk (fun e => hn (by simp [← e]))⟩
  have hac : ∀ {x : Value} {l : List ActR}, AcR w w0.heap.size x l → AcR w' w0.heap.size x l := fun hx => hx.fr hf1 (fun g0 cur hg0 => hob hg0 (by decide))
  obtain ⟨a, he⟩ := h.e
  refine ⟨⟨a, ?_⟩, h.q.of_same (hf1.block qb h.q.lt (hob h.q (by decide))), by rw [List.map_append]; exact ho, by rw [List.length_append, h.len]; rfl, fun j hj => ?_, below_of_fr h.b hf1 (fun y hy => ?_)⟩
  · cases hov : pv.ownBlock with
    | none => exact he.below (by rw [hov] at hf1; exact hf1.below (Nat.le_refl _) (fun k hk => by simp at hk))
    | some b =>
      obtain ⟨cur, hc⟩ := h.pl.ty b hov
      exact he.other hc (h.pl.lt b hov).1 (by decide) (by decide) (by decide) (by decide) (by decide) (by rw [hov] at hf1; simpa using hf1)
  · rw [List.getD_eq_getElem?_getD]
    by_cases e : j < i
    · rw [List.getElem?_append_left (by rw [h.len]; exact e), ← List.getD_eq_getElem?_getD]
      exact hac (h.ac j e)
    · obtain rfl : j = i := by omega
      rw [List.getElem?_append_right (by rw [h.len]; exact Nat.le_refl _), h.len, Nat.sub_self]
      exact hac hu
  · rw [Option.mem_toList] at hy
    exact (h.pl.lt y hy).1
/-- The game has begun. -/
theorem BR.rg {N : Nat} (h : BR w0 w p C qb N n plan V pv) (hN : plan.length = N) (h0 : 0 < N) (hok : AllOk (PlS.first (St.new n) plan)) (hct : (PlS.first (St.new n) plan).cnt ≤ 900000) :
    ∃ bp pc, pv = .slice (some ⟨bp, 0, none⟩) N pc ∧ RG w0 w p bp N C qb (.slice none 0 0) (PlS.first (St.new n) plan) := by
  obtain ⟨bp, pc, cur, e, hB, hb, hn, hm, hs, hc⟩ := h.pl.blk (by simp; intro e; rw [e] at h; have := h.len; simp at this; omega)
  rw [List.length_map, h.len] at e hn hc
  subst e
  have hrow : ∀ i, i < N → (V.map rowA).getD i [] = rowA (V.getD i undef) := fun i hi => by
    rw [List.getD_eq_getElem?_getD, List.getD_eq_getElem?_getD, List.getElem?_map, List.getElem?_eq_getElem (by rw [h.len]; exact hi)]
    rfl
  obtain ⟨a, he⟩ := h.e
  have hp : ∀ i, i < N → (PlS.first (St.new n) plan).P.getD i .no = ⟨(plan.getD i []).filter (canR i), .no⟩ := fun i hi => plrs_at plan i (by omega)
  have hl : (PlS.first (St.new n) plan).P.length = N := by
    show (plrs plan).length = N
    rw [plrs_len, hN]
  refine ⟨bp, pc, rfl, ⟨⟨a, fun _ => (0, 0, 0), fun i j => (rowA (V.getD i undef)).getD j undef, ?_⟩, h.q, OwnG.nil .., hok, hl, hct⟩⟩
  refine ⟨he, new_Np n, ⟨cur, hb, fun i j hi hj => ?_⟩, hl, fun i hi => ?_, fun i hi hx => ?_, fun i j hi hj hij h1 => ?_, hB, h.b⟩
  · rw [hc i j hi hj, hrow i hi]
    match j, hj with
    | 0, _ => rfl
    | 1, _ => rfl
    | 2, _ => rfl
    | 3, _ => rfl
    | 4, _ => rfl
  · rw [hp i hi]
    exact ⟨h.ac i hi, ⟨⟨_, rfl⟩, ⟨0, rfl⟩, ⟨0, rfl⟩, ⟨-1, rfl⟩⟩, fun _ => rfl, fun hx => absurd rfl hx⟩
  · rw [hp i hi] at hx
    exact absurd rfl hx
  · rw [hp i hi] at h1
    exact absurd rfl h1
end
end Go.Proofs.YtjehiekmlbeaeaaGreat

namespace Go.Proofs.YtjehiekmlbeaeaaGreat
open Go Go.RowKit
set_option linter.unusedSimpArgs false
theorem row_low {w : World} {base base' : Nat} {t : TypeId} {s : Nat} {v : Value} {n : Nat} {vs : List Value} (h : w.ownsRow base t s v n vs) (hb : base' ≤ base) : w.ownsRow base' t s v n vs := by
  refine ⟨h.1, ?_⟩
  rcases h.2 with h4 | ⟨g, cap, cur, rfl, h4, rest⟩
  · exact .inl h4
  · exact .inr ⟨g, cap, cur, rfl, Nat.le_trans hb h4, rest⟩
theorem OwnR.low {w : World} {base base' : Nat} {v : Value} {l : List Rec} (h : OwnR w base v l) (hb : base' ≤ base) : OwnR w base' v l := by
  obtain ⟨ks, h1, h2, h3⟩ := h
  exact ⟨ks, h1, row_low h2 hb, fun i hi => row_low (h3 i hi) hb⟩
/-- The same environment, with less below it. -/
theorem EnvF.low {B B0 : Nat} {w : World} {p : Nat} {a : EnvA} {s : St} {es : List Ev} {rs : List Rec} (h : EnvF B w p a s es rs) (hb : B0 ≤ B) {W0 : World} (h0 : W0.heap.size = B0) (hl : Lists W0 0 a.c a.pa a.pn a.sa a.sn) (hw : Below B0 W0 w) : EnvF B0 w p a s es rs :=
  ⟨h.m, row_low h.ev hb, h.rc.low hb, ⟨W0, h0, hl, hw⟩, Nat.le_trans hb h.hp, Nat.le_trans hb h.hg⟩
end Go.Proofs.YtjehiekmlbeaeaaGreat
