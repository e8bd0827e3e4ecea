/-
  The laws of table: the environment, its machines alone, the chapter's example.
-/
import Derived.Test.YtgipddeldddbnaaGreatMgBF
import Derived.Test.YtgipddeldddbnaaGreatMgBU
namespace Go.Proofs.YtgipddeldddbnaaGreat
open Go Go.RowKit Go.Shelf
set_option linter.unusedSimpArgs false
set_option linter.unusedVariables false

theorem row_lower {w : World} {B C : Nat} {t : TypeId} {s : Nat} {v : Value} {n : Nat} {vs : List Value} (h : w.ownsRow B t s v n vs) (hC : C ≤ B) : w.ownsRow C t s v n vs := by
  refine ⟨h.1, ?_⟩
  rcases h.2 with h | ⟨g, cap, cur, rfl, hB, rest⟩
  · exact .inl h
  · exact .inr ⟨g, cap, cur, rfl, Nat.le_trans hC hB, rest⟩
theorem OwnE.lower {w : World} {B C : Nat} {v : Value} {l : List Ev} (h : OwnE w B v l) (hC : C ≤ B) : OwnE w C v l := row_lower h hC
theorem OwnR.lower {w : World} {B C : Nat} {v : Value} {l : List Rec} (h : OwnR w B v l) (hC : C ≤ B) : OwnR w C v l := by
  obtain ⟨ks, h1, h2, h3⟩ := h
  exact ⟨ks, h1, row_lower h2 hC, fun i hi => row_lower (h3 i hi) hC⟩
/-- An environment with the configuration c, made behind w0; at most N events. -/
structure ER (w0 : World) (p m k g cap : Nat) (c : Cfg) (hd : List Value) (rv : Value) (N : Nat) (x : St × List Rec × List Ev) (w : World) : Prop where
  t : TI w0.heap.size p m k g cap 0 0 hd rv c N 0 w x
  c : TC w0.heap.size p m k g hd c
  b : Below w0.heap.size w0 w
section
variable {w0 w w' : World} {p m k g cap q N n : Nat} {c : Cfg} {hd : List Value} {rv : Value} {x x' : St × List Rec × List Ev} {r : Res} {most : Nat}
theorem ER.below (h : ER w0 p m k g cap c hd rv N x w) (hb : Below w.heap.size w w') : ER w0 p m k g cap c hd rv N x w' := by
  obtain ⟨ev, _, _, _, _, z⟩ := h.t
  exact ⟨h.t.below hb, h.c, h.b.trans (hb.mono z)⟩
theorem ER.done (h : ER w0 p m k g cap c hd rv N x w) (ht : TI w0.heap.size p m k g cap 0 0 hd rv c N n w' x') (hb : Below w0.heap.size w w') : ER w0 p m k g cap c hd rv (N + n) x' w' := by
  obtain ⟨ev, a1, a2, a3, a4, a5⟩ := ht
  exact ⟨⟨ev, a1, a2, a3, by omega, a5⟩, h.c, h.b.trans hb⟩
theorem ER.at20 (h : ER w0 p m k g cap c hd rv N x w) : w.cell? ⟨p, 20, none⟩ = some (.pointer (some ⟨m, 0, none⟩)) := by
  obtain ⟨ev, a, _⟩ := h.t
  exact a.e.at20
theorem ER.size (h : ER w0 p m k g cap c hd rv N x w) : w0.heap.size ≤ w.heap.size := by
  obtain ⟨ev, _, _, _, _, z⟩ := h.t
  exact z
/-- What Alone gives, in the laws. -/
def RAlone (w0 : World) (p m k g cap : Nat) (c : Cfg) (hd : List Value) (rv : Value) (N : Nat) (x' : St × List Rec × List Ev) (r : Res) (n : Nat) (e : Ending) (w' : World) : Prop :=
  e = .returned (.tuple #[.int .i64 r.cd, .int .i64 r.vl, .int .i64 n]) ∧ ER w0 p m k g cap c hd rv (N + n) x' w'
theorem alc_alone (h : ER w0 p m k g cap c hd rv N x w) (hb : LB w q 97 [] fraA 0 0) (hq : w0.heap.size ≤ q) (hm : 1 ≤ most ∧ most ≤ 1000) :
    Calls Tryz.prog 8 #[.pointer (some ⟨p, 0, none⟩), .iface 95 (.pointer (some ⟨q, 0, none⟩)), .int .i64 most] w (RAlone w0 p m k g cap c hd rv N ((alcS c x.1).1, x.2) (alcS c x.1).2 1) := by
  have hr : RunX (alcX c) x fraA (alcX c x fraA).1 (alcX c x fraA).2.2 1 := .last (by unfold alcX alcS; dsimp only; split <;> rfl)
  refine (alone_gen (I := TI w0.heap.size p m k g cap 0 0 hd rv c N) (V := fun w f => LB w q 97 [] f 0 0 ∧ f.ln = 1) (meth_step_allocator q) (ahead_step_allocator q) (meth_result_allocator q) (ahead_result_allocator q) (enters_of Tryz.func90 (by kernel_rfl) rfl)
    (fun j w n s h => h.drewN n) (fun j w s x _ h0 h1 => alc_step h.c hq h0 h1) h.t ⟨hb, rfl⟩ hr hm.1 hm.2).mono ?_
  rintro e w' ⟨rfl, ht, hb⟩
  exact ⟨rfl, h.done ht hb⟩
theorem pub_alone (h : ER w0 p m k g cap c hd rv N x w) {a b : Int} (hb : LB w q 100 [.int .i64 a, .int .i64 b] (fraPb a b) 0 0) (hq : w0.heap.size ≤ q) {s' : St × List Rec × List Ev} (hr : RunX (pubX c 0) x (fraPb a b) s' r n) (hm : n ≤ most ∧ most ≤ 1000) :
    Calls Tryz.prog 8 #[.pointer (some ⟨p, 0, none⟩), .iface 98 (.pointer (some ⟨q, 0, none⟩)), .int .i64 most] w (RAlone w0 p m k g cap c hd rv N s' r n) := by
  refine (alone_gen (I := TI w0.heap.size p m k g cap 0 0 hd rv c N) (V := fun w f => LB w q 100 [.int .i64 f.fa, .int .i64 f.fb] f 0 0 ∧ PubOk c f) (meth_step_publisher q) (ahead_step_publisher q) (meth_result_publisher q) (ahead_result_publisher q) (enters_of Tryz.func95 (by kernel_rfl) rfl)
    (fun j w n s h => h.drewN n) (fun j w s x _ h0 h1 => pub_step h.c hq h0 h1) h.t ⟨hb, .inl rfl⟩ hr hm.1 hm.2).mono ?_
  rintro e w' ⟨rfl, ht, hb⟩
  exact ⟨rfl, h.done ht hb⟩
theorem clm_alone (h : ER w0 p m k g cap c hd rv N x w) {a b : Int} (hb : LB w q 76 (cpost (fraCl a b)) (fraCl a b) 0 0) (hq : w0.heap.size ≤ q) (hN : N ≤ 800000) (hm : 1 ≤ most ∧ most ≤ 1000) :
    Calls Tryz.prog 8 #[.pointer (some ⟨p, 0, none⟩), .iface 73 (.pointer (some ⟨q, 0, none⟩)), .int .i64 most] w (RAlone w0 p m k g cap c hd rv N (clmX c x (fraCl a b)).1 (clmX c x (fraCl a b)).2.2 1) := by
  have hr : RunX (clmX c) x (fraCl a b) (clmX c x (fraCl a b)).1 (clmX c x (fraCl a b)).2.2 1 := .last (by unfold clmX clmS; dsimp only; split <;> rfl)
  refine (alone_gen (I := TI w0.heap.size p m k g cap 0 0 hd rv c N) (V := fun w f => LB w q 76 (cpost f) f 0 0 ∧ f.ln = 1) (meth_step_claimer q) (ahead_step_claimer q) (meth_result_claimer q) (ahead_result_claimer q) (enters_of Tryz.func83 (by kernel_rfl) rfl)
    (fun j w n s h => h.drewN n) (fun j w s x hj h0 h1 => clm_step h.c hq h0 (by omega) h1) h.t ⟨hb, rfl⟩ hr hm.1 hm.2).mono ?_
  rintro e w' ⟨rfl, ht, hb⟩
  exact ⟨rfl, h.done ht hb⟩
end

/-- The steps of a machine, with so many at most. -/
def runX {X M : Type} (stp : X → M → X × M × Res) : Nat → X → M → Option (X × Res × Nat)
  | 0, _, _ => none
  | n + 1, s, x => if (stp s x).2.2.dn = true then some ((stp s x).1, (stp s x).2.2, 1) else (runX stp n (stp s x).1 (stp s x).2.1).map fun y => (y.1, y.2.1, y.2.2 + 1)
theorem RunX.of_run {X M : Type} {stp : X → M → X × M × Res} : ∀ {n : Nat} {s s' : X} {x : M} {r : Res} {N : Nat}, runX stp n s x = some (s', r, N) → RunX stp s x s' r N ∧ N ≤ n
  | 0, _, _, _, _, _, h => by simp [runX] at h
  | n + 1, s, s', x, r, N, h => by
    unfold runX at h
    cases hd : (stp s x).2.2.dn with
    | true =>
      rw [if_pos hd] at h
      simp only [Option.some.injEq, Prod.mk.injEq] at h
      obtain ⟨e1, e2, e3⟩ := h
      rw [← e1, ← e2, ← e3]
      exact ⟨.last hd, by omega⟩
    | false =>
      rw [if_neg (by rw [hd]; decide)] at h
      cases h2 : runX stp n (stp s x).1 (stp s x).2.1 with
      | none => rw [h2] at h; simp at h
      | some y =>
        rw [h2] at h
        obtain ⟨a, b, d⟩ := y
        simp only [Option.map_some, Option.some.injEq, Prod.mk.injEq] at h
        obtain ⟨rfl, rfl, rfl⟩ := h
        have := RunX.of_run h2
        exact ⟨.cons hd this.1, by omega⟩

/-- A byte list that has just been built. -/
theorem inB_made (w : World) (cs : Array Value) (zs : List Int) {L : Nat} (hL : zs.length = L) (hc : cs = (zs.map (Value.int .u8)).toArray) (hz : ∀ z, z ∈ zs → 0 ≤ z ∧ z ≤ 255) (hl : zs.length ≤ 1000) :
    InB (w.alloc (.cells cs 5)) (w.alloc (.cells cs 5)).heap.size (some ⟨w.heap.size, 0, none⟩) L zs := by
  subst hc
  subst hL
  refine ⟨rfl, by unfold maxLen; omega, fun i hi => ⟨_, rfl, by simp, ?_, ?_⟩⟩
  · rw [add_head _ ⟨rfl, rfl⟩, (Blk.made w _ _).at_, List.getElem?_toArray, List.getElem?_map, List.getD_eq_getElem?_getD, List.getElem?_eq_getElem hi]
    rfl
  · rw [List.getD_eq_getElem?_getD, List.getElem?_eq_getElem hi]
    exact hz _ (List.getElem_mem hi)
/-- What New gives for a valid configuration, with its records. -/
def RNewed (c : Cfg) (w : World) (e : Ending) (w' : World) : Prop :=
  ∃ p m k g hd rv, e = .returned (.tuple #[.pointer (some ⟨p, 0, none⟩), .int .i64 0]) ∧ ER w p m k g (rCells c).toNat c hd rv 0 (St.new (rCells c).toNat, newRs c.ta.toNat, []) w'
theorem rnewed_any {w : World} {B : Nat} {c : Cfg} {pa : Option Addr} {pn : Nat} {sa : Option Addr} {sn : Nat} (h : Lists w B c pa pn sa sn) (pc sc : Nat) (hc : chk c = 0) : Calls Tryz.prog 4 #[cv c pa pn pc sa sn sc] w (RNewed c w) := by
  obtain ⟨_, hk2, hk3, hk4⟩ := chk_ok hc
  have hbn : pn ≤ 1000 ∧ sn ≤ 1000 := by
    have e1 := h.pr.1
    have e2 := h.su.1
    have := hk2
    simp only [inB, Bool.and_eq_true, decide_eq_true_eq] at this
    omega
  have hin := cfgIn_chk hc
  refine (pnew_yes h pc sc hc hbn.1 hbn.2 (fun x hx => Nat.le_trans (chkPs_ok hk3 x hx).1 (by decide))).mono ?_
  rintro e w2 ⟨p, m, k, g, qa, qn, qc, ta, tn, tc, rv, rfl, hp, hr, _, _, hb, l1, l2, l3, l4⟩
  have := hin.ta
  exact ⟨p, m, k, g, _, rv, rfl, ⟨⟨_, ⟨hp, OwnE.nil _ _, hr⟩, new_U _, by simp [newRs]; omega, Nat.zero_le _, hb.size⟩, ⟨layHd_new c qa qn qc ta tn tc, hin, l1, l2, l3, l4⟩, hb⟩⟩

abbrev byt : List Int := [0, 0, 0, 1]
def resB (r : Res) (c v : Int) : Bool := r.dn && r.cd == c && r.vl == v
theorem resB_eq {r : Res} {c v : Int} (h : resB r c v = true) : r = ⟨true, c, v⟩ := by
  obtain ⟨a, b, d⟩ := r
  simp only [resB, Bool.and_eq_true, beq_iff_eq] at h
  obtain ⟨⟨rfl, rfl⟩, rfl⟩ := h
  rfl
def aw18B (c : Cfg) : Bool :=
  let x0 : St × List Rec × List Ev := (St.new (rCells c).toNat, newRs c.ta.toNat, [])
  let x1 := ((alcS c x0.1).1, x0.2)
  let x2 := ((alcS c x1.1).1, x1.2)
  let x3 := ((alcS c x2.1).1, x2.2)
  match runX (pubX c 0) 5 x3 (fraPb 1 0) with
  | some (x4, _, _) =>
    resB (alcS c x0.1).2 1 0 && resB (alcS c x1.1).2 1 1 && resB (alcS c x2.1).2 3 0 && resB (clmX c x4 (fraCl 0 1)).2.2 1 1 && resB (clmX c (clmX c x4 (fraCl 0 1)).1 (fraCl 0 1)).2.2 4 0 &&
    (clmX c (clmX c x4 (fraCl 0 1)).1 (fraCl 0 1)).1.2.2.map Ev.kd == [5, 15]
  | none => false
theorem aw18B_true : aw18B (decC (strm byt)) = true := by decide +kernel
end Go.Proofs.YtgipddeldddbnaaGreat
