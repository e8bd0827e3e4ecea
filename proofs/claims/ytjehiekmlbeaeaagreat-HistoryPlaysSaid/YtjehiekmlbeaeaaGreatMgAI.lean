/-
  Plain mathematics: one owner and several thieves, each with a machine or none; what one step of one of them does to all. No function is named.
  Plain mathematics: what a step of a steal keeps. No function is named.
  The machines of owners and thieves as values of the interface, and what holds them.
-/
import Derived.Test.YtjehiekmlbeaeaaGreatMgAH
import Derived.Test.YtjehiekmlbeaeaaGreatMgAF
import Derived.Test.YtjehiekmlbeaeaaGreatMgAD
namespace Go.Proofs.YtjehiekmlbeaeaaGreat
open Go Go.RowKit
set_option linter.unusedSimpArgs false
set_option linter.unusedVariables false

inductive Mach where
  | no
  | push (f : Fra)
  | pop (f : Fra)
  | steal (f : Fra)
def Mach.own : Mach → Own
  | .push f => .push f
  | .pop f => .pop f
  | _ => .rest
def Mach.pend : Mach → Nat
  | .push _ => 1
  | _ => 0
def stepM (s : St) : Mach → St × Mach × Res
  | .no => (s, .no, ⟨true, 0, 0⟩)
  | .push f => ((pushS s f).1, .push (pushS s f).2.1, (pushS s f).2.2)
  | .pop f => ((popS s f).1, .pop (popS s f).2.1, (popS s f).2.2)
  | .steal f => ((stealS s f).1, .steal (stealS s f).2.1, (stealS s f).2.2)
/-- All of it: n is Cap, t0 the first index, N how many numbers there are, B above all that were pushed. -/
structure Inv (N n t0 B : Nat) (s : St) (T : Nat) (L : List Int) (cl : Option Int) (M : List Mach) (P : List Bool) (K : List Int) : Prop where
  cs : CL s n t0 T L
  ow : OW s n T L cl (M.getD 0 .no).own
  o0 : ∀ f, M.getD 0 .no ≠ .steal f
  th : ∀ a, 0 < a → M.getD a .no = .no ∨ ∃ f, M.getD a .no = .steal f ∧ TH n t0 T L f
  ct : Cnt N L cl P K
  fa : ∀ f, M.getD 0 .no = .push f → ∃ d : Nat, f.fa = d ∧ d < B ∧ P.getD d false = false
  pb : ∀ j, B ≤ j → P.getD j false = false
  bN : B ≤ N ∧ N ≤ 200000
  li : T + L.length + (M.getD 0 .no).pend ≤ t0 + B

section
variable {N n t0 B : Nat} {s : St} {T : Nat} {L : List Int} {cl : Option Int} {M : List Mach} {P : List Bool} {K : List Int}
theorem set_at {α : Type} (l : List α) (a : Nat) (v d : α) (h : a < l.length) : (l.set a v).getD a d = v := by
  rw [getD_set_if, if_pos ⟨rfl, h⟩]
theorem set_off {α : Type} (l : List α) (a j : Nat) (v d : α) (h : a ≠ j) : (l.set a v).getD j d = l.getD j d := by
  rw [getD_set_if, if_neg (by omega)]
/-- The owner begins a push of the number i. -/
theorem Inv.push (h : Inv N n t0 B s T L cl M P K) (hm : 0 < M.length) (h0 : M.getD 0 .no = .no) (f : Fra) (i : Nat) (hi : B ≤ i) (hN : i < N) (hq : f.qt = 0 ∧ f.qb = 1 ∧ f.qr = 2 ∧ f.qc = n) (hl : f.ln = 1) (hf : f.fa = i) :
    Inv N n t0 (i + 1) s T L cl (M.set 0 (.push f)) P K := by
  have ho := h.ow
  rw [h0] at ho
  have hli := h.li
  refine ⟨h.cs, ?_, fun g => ?_, fun a ha => ?_, h.ct, fun g hg => ?_, fun j hj => h.pb j (by omega), ⟨by omega, h.bN.2⟩, ?_⟩
  · rw [set_at _ _ _ _ hm]
    exact ⟨⟨hq.1, hq.2.1, hq.2.2.1, hq.2.2.2, ho.1, .inl hl⟩, ho.2⟩
  · rw [set_at _ _ _ _ hm]
    exact fun e => by cases e
  · rw [set_off _ _ _ _ _ (by omega)]
    exact h.th a ha
  · rw [set_at _ _ _ _ hm] at hg
    injection hg with hg
    subst hg
    exact ⟨i, hf, by omega, h.pb i hi⟩
  · rw [set_at _ _ _ _ hm]
    show T + L.length + 1 ≤ _
    omega
/-- .. a pop. -/
theorem Inv.pop (h : Inv N n t0 B s T L cl M P K) (hm : 0 < M.length) (h0 : M.getD 0 .no = .no) (f : Fra) (hq : f.qt = 0 ∧ f.qb = 1 ∧ f.qr = 2 ∧ f.qc = n) (hl : f.ln = 1) :
    Inv N n t0 B s T L cl (M.set 0 (.pop f)) P K := by
  have ho := h.ow
  rw [h0] at ho
  have hli := h.li
  refine ⟨h.cs, ?_, fun g => ?_, fun a ha => ?_, h.ct, fun g hg => ?_, h.pb, h.bN, ?_⟩
  · rw [set_at _ _ _ _ hm]
    exact ⟨hq.1, hq.2.1, hq.2.2.1, hq.2.2.2, .inl ⟨hl, ho.1, ho.2⟩⟩
  · rw [set_at _ _ _ _ hm]
    exact fun e => by cases e
  · rw [set_off _ _ _ _ _ (by omega)]
    exact h.th a ha
  · rw [set_at _ _ _ _ hm] at hg
    cases hg
  · rw [set_at _ _ _ _ hm]
    show T + L.length + 0 ≤ _
    omega
/-- A thief begins a steal. -/
theorem Inv.steal (h : Inv N n t0 B s T L cl M P K) (a : Nat) (hm : a < M.length) (ha : 0 < a) (f : Fra) (hq : f.qt = 0 ∧ f.qb = 1 ∧ f.qr = 2 ∧ f.qc = n) (hl : f.ln = 1) :
    Inv N n t0 B s T L cl (M.set a (.steal f)) P K := by
  have e0 : (M.set a (.steal f)).getD 0 .no = M.getD 0 .no := set_off _ _ _ _ _ (by omega)
  refine ⟨h.cs, by rw [e0]; exact h.ow, by rw [e0]; exact h.o0, fun b hb => ?_, h.ct, by rw [e0]; exact h.fa, h.pb, h.bN, by rw [e0]; exact h.li⟩
  by_cases e : a = b
  · subst e
    rw [set_at _ _ _ _ hm]
    exact .inr ⟨f, rfl, hq.1, hq.2.1, hq.2.2.1, hq.2.2.2, .inl hl⟩
  · rw [set_off _ _ _ _ _ e]
    exact h.th b hb

/-- A step of the owner's push. -/
theorem Inv.push_step (h : Inv N n t0 B s T L cl M P K) (hm : 0 < M.length) {f : Fra} (h0 : M.getD 0 .no = .push f) : ∃ L', 
    ((pushS s f).2.2.dn = false → Inv N n t0 B (pushS s f).1 T L' cl (M.set 0 (.push (pushS s f).2.1)) P K) ∧
    ((pushS s f).2.2.dn = true → ((pushS s f).2.2.cd = 0 ∧ ∃ d : Nat, f.fa = d ∧ d < N ∧ Inv N n t0 B (pushS s f).1 T L' cl (M.set 0 .no) (P.set d true) K) ∨
      ((pushS s f).2.2.cd ≠ 0 ∧ (pushS s f).2.2.cd ≠ 1 ∧ Inv N n t0 B (pushS s f).1 T L' cl (M.set 0 .no) P K)) := by
  have ho := h.ow
  have hli := h.li
  rw [h0] at ho hli
  obtain ⟨hw, hcl⟩ := ho
  have hbN := h.bN
  obtain ⟨d, hd, hdB, hdP⟩ := h.fa f h0
  replace hli : T + L.length + 1 ≤ t0 + B := hli
  obtain ⟨L', k1, k2, k3, k4⟩ := Go.Proofs.YtjehiekmlbeaeaaGreat.push_step h.cs hw (by omega)
  have hth : ∀ m, ∀ a, 0 < a → (M.set 0 m).getD a .no = .no ∨ ∃ g, (M.set 0 m).getD a .no = .steal g ∧ TH n t0 T L' g := fun m a ha => by
    rw [set_off _ _ _ _ _ (by omega)]
    rcases h.th a ha with e | ⟨g, e, kg⟩
    · exact .inl e
    · exact .inr ⟨g, e, k2 g kg⟩
  refine ⟨L', fun hdn => ?_, fun hdn => ?_⟩
  · obtain ⟨e1, e2⟩ := k3 hdn
    subst e2
    refine ⟨k1, ?_, fun g => ?_, hth _, h.ct, fun g hg => ?_, h.pb, h.bN, ?_⟩
    · rw [set_at _ _ _ _ hm]
      exact ⟨e1, hcl⟩
    · rw [set_at _ _ _ _ hm]
      exact fun e => by cases e
    · rw [set_at _ _ _ _ hm] at hg
      injection hg with hg
      subst hg
      exact ⟨d, by rw [(push_keeps.q s f).1]; exact hd, hdB, hdP⟩
    · rw [set_at _ _ _ _ hm]
      show T + L'.length + 1 ≤ _
      omega
  · obtain ⟨e1, e2⟩ := k4 hdn
    rcases e2 with ⟨c0, e2⟩ | ⟨c0, c1, e2⟩
    · have hwr : IntKind.u64.wrap f.fa = (d : Int) := by
        rw [hd]
        exact IntWalk.u64_in _ (by omega)
      rw [hwr] at e2
      have hlen : L'.length = L.length + 1 := by rw [e2]; simp
      refine .inl ⟨c0, d, hd, by omega, k1, ?_, fun g => ?_, hth _, ?_, fun g hg => ?_, fun j hj => ?_, h.bN, ?_⟩
      · rw [set_at _ _ _ _ hm]
        exact ⟨e1, hcl⟩
      · rw [set_at _ _ _ _ hm]
        exact fun e => by cases e
      · rw [e2]
        exact h.ct.push d (by omega) hdP
      · rw [set_at _ _ _ _ hm] at hg
        cases hg
      · rw [set_off _ _ _ _ _ (by omega)]
        exact h.pb j hj
      · rw [set_at _ _ _ _ hm]
        show T + L'.length + 0 ≤ _
        omega
    · subst e2
      refine .inr ⟨c0, c1, k1, ?_, fun g => ?_, hth _, h.ct, fun g hg => ?_, h.pb, h.bN, ?_⟩
      · rw [set_at _ _ _ _ hm]
        exact ⟨e1, hcl⟩
      · rw [set_at _ _ _ _ hm]
        exact fun e => by cases e
      · rw [set_at _ _ _ _ hm] at hg
        cases hg
      · rw [set_at _ _ _ _ hm]
        show T + L'.length + 0 ≤ _
        omega

/-- A step of the owner's pop. -/
theorem Inv.pop_step (h : Inv N n t0 B s T L cl M P K) (hm : 0 < M.length) {f : Fra} (h0 : M.getD 0 .no = .pop f) : ∃ T' L' cl',
    ((popS s f).2.2.dn = false → Inv N n t0 B (popS s f).1 T' L' cl' (M.set 0 (.pop (popS s f).2.1)) P K) ∧
    ((popS s f).2.2.dn = true → ((popS s f).2.2.cd = 1 ∧ ∃ d : Nat, (popS s f).2.2.vl = d ∧ d < N ∧ K.getD d 0 = 0 ∧ Inv N n t0 B (popS s f).1 T' L' none (M.set 0 .no) P (K.set d 1)) ∨
      ((popS s f).2.2.cd ≠ 0 ∧ (popS s f).2.2.cd ≠ 1 ∧ Inv N n t0 B (popS s f).1 T' L' none (M.set 0 .no) P K)) := by
  have hw := h.ow
  have hli := h.li
  rw [h0] at hw hli
  replace hli : T + L.length + 0 ≤ t0 + B := hli
  replace hw : PoW s n T L f cl := hw
  have hbN := h.bN
  obtain ⟨T', L', cl', k0, k1, k2, k3, k4⟩ := Go.Proofs.YtjehiekmlbeaeaaGreat.pop_step h.cs hw
  have hth : ∀ m, ∀ a, 0 < a → (M.set 0 m).getD a .no = .no ∨ ∃ g, (M.set 0 m).getD a .no = .steal g ∧ TH n t0 T' L' g := fun m a ha => by
    rw [set_off _ _ _ _ _ (by omega)]
    rcases h.th a ha with e | ⟨g, e, kg⟩
    · exact .inl e
    · exact .inr ⟨g, e, k2 g kg⟩
  refine ⟨T', L', cl', fun hdn => ?_, fun hdn => ?_⟩
  · obtain ⟨e1, e2⟩ := k3 hdn
    refine ⟨k1, ?_, fun g => ?_, hth _, ?_, fun g hg => ?_, h.pb, h.bN, ?_⟩
    · rw [set_at _ _ _ _ hm]
      exact e1
    · rw [set_at _ _ _ _ hm]
      exact fun e => by cases e
    · rcases e2 with ⟨rfl, rfl⟩ | ⟨rfl, x, rfl, e2⟩
      · exact h.ct
      · exact h.ct.claim e2
    · rw [set_at _ _ _ _ hm] at hg
      cases hg
    · rw [set_at _ _ _ _ hm]
      show T' + L'.length + 0 ≤ _
      omega
  · obtain ⟨e1, e2, e3⟩ := k4 hdn
    subst e2
    have hlast : ∀ P' K', Cnt N L' none P' K' → (∀ j, B ≤ j → P'.getD j false = false) → Inv N n t0 B (popS s f).1 T' L' none (M.set 0 .no) P' K' := fun P' K' hc hp => by
      refine ⟨k1, ?_, fun g => ?_, hth _, hc, fun g hg => ?_, hp, h.bN, ?_⟩
      · rw [set_at _ _ _ _ hm]
        exact ⟨e1, rfl⟩
      · rw [set_at _ _ _ _ hm]
        exact fun e => by cases e
      · rw [set_at _ _ _ _ hm] at hg
        cases hg
      · rw [set_at _ _ _ _ hm]
        show T' + L'.length + 0 ≤ _
        omega
    rcases e3 with ⟨c1, x, ex, ev⟩ | ⟨c0, c1, ec, _⟩
    · subst ex
      obtain ⟨hx0, hxN, hxP, hxK, _⟩ := h.ct.inC x rfl
      refine .inl ⟨c1, x.toNat, ?_, hxN, hxK, hlast _ _ h.ct.ret h.pb⟩
      rw [ev, IntKind.wrap_i64]
      omega
    · subst ec
      exact .inr ⟨c0, c1, hlast _ _ h.ct h.pb⟩

/-- A step of a thief's steal. -/
theorem Inv.steal_step (h : Inv N n t0 B s T L cl M P K) {a : Nat} (hm : a < M.length) (ha : 0 < a) {f : Fra} (h0 : M.getD a .no = .steal f) : ∃ T' L',
    ((stealS s f).2.2.dn = false → Inv N n t0 B (stealS s f).1 T' L' cl (M.set a (.steal (stealS s f).2.1)) P K) ∧
    ((stealS s f).2.2.dn = true → ((stealS s f).2.2.cd = 1 ∧ ∃ d : Nat, (stealS s f).2.2.vl = d ∧ d < N ∧ K.getD d 0 = 0 ∧ Inv N n t0 B (stealS s f).1 T' L' cl (M.set a .no) P (K.set d 1)) ∨
      ((stealS s f).2.2.cd ≠ 1 ∧ Inv N n t0 B (stealS s f).1 T' L' cl (M.set a .no) P K)) := by
  have hbN := h.bN
  have hli := h.li
  have hf : TH n t0 T L f := by
    rcases h.th a ha with e | ⟨g, e, kg⟩
    · rw [h0] at e
      cases e
    · rw [h0] at e
      injection e with e
      rw [e]
      exact kg
  obtain ⟨T', L', k0, k1, k2, k3, k4, k5⟩ := thief_step h.cs h.ow hf
  have hall : ∀ m P' K', (m = .no ∨ ∃ g, m = .steal g ∧ TH n t0 T' L' g) → Cnt N L' cl P' K' → P' = P → Inv N n t0 B (stealS s f).1 T' L' cl (M.set a m) P' K' := fun m P' K' hmm hc hp => by
    subst hp
    have e0 : (M.set a m).getD 0 .no = M.getD 0 .no := set_off _ _ _ _ _ (by omega)
    refine ⟨k1, by rw [e0]; exact k2, by rw [e0]; exact h.o0, fun b hb => ?_, hc, by rw [e0]; exact h.fa, h.pb, h.bN, by rw [e0]; omega⟩
    by_cases e : a = b
    · subst e
      rw [set_at _ _ _ _ hm]
      exact hmm
    · rw [set_off _ _ _ _ _ e]
      rcases h.th b hb with e | ⟨g, e, kg⟩
      · exact .inl e
      · exact .inr ⟨g, e, k3 g kg⟩
  refine ⟨T', L', fun hdn => ?_, fun hdn => ?_⟩
  · obtain ⟨e1, e2⟩ := k4 hdn
    exact hall _ _ _ (.inr ⟨_, rfl, e1⟩) (by rw [e2]; exact h.ct) rfl
  · rcases k5 hdn with ⟨c1, x, ex, ev⟩ | ⟨c1, e2⟩
    · subst ex
      obtain ⟨hx0, hxN, hxP, hxK⟩ := h.ct.inL x (List.mem_cons_self ..)
      refine .inl ⟨c1, x.toNat, ?_, hxN, hxK, hall _ _ _ (.inl rfl) h.ct.take rfl⟩
      rw [ev]
      unfold wrap64
      omega
    · exact .inr ⟨c1, hall _ _ _ (.inl rfl) (by rw [e2]; exact h.ct) rfl⟩

/-- When nobody has a machine, what lies between Top and Bottom is what was pushed and not taken. -/
theorem Inv.last (h : Inv N n t0 B s T L cl M P K) (h0 : M.getD 0 .no = .no) : sizeI (s.old 1) (s.old 0) = (leftC P K N : Int) := by
  have ho := h.ow
  rw [h0] at ho
  have hbN := h.bN
  have hli := h.li
  have hlim := h.cs.lim
  have hct := h.ct
  rw [ho.2] at hct
  rw [ho.1, h.cs.top, size_int (by omega) (by omega) (by omega), hct.left]
  omega
/-- In the beginning. -/
theorem Inv.begin (hs : CL s n t0 t0 []) (hb : s.old 1 = (t0 : Int)) (hN : N ≤ 200000) (k : Nat) : Inv N n t0 0 s t0 [] none (List.replicate k .no) (List.replicate N false) (List.replicate N 0) := by
  refine ⟨hs, ?_, fun f => ?_, fun a ha => .inl (getD_rep ..), Cnt.new N, fun f hf => ?_, fun j _ => getD_rep .., ⟨by omega, hN⟩, ?_⟩
  · rw [getD_rep]
    exact ⟨by rw [hb]; simp, rfl⟩
  · rw [getD_rep]
    exact fun e => by cases e
  · rw [getD_rep] at hf
    cases hf
  · rw [getD_rep]
    show t0 + 0 + 0 ≤ _
    omega
end

/-- How far a machine has come: its line; each step goes on, and none is left behind line 9. -/
def Mach.line : Mach → Int
  | .no => 10
  | .push f => f.ln
  | .pop f => f.ln
  | .steal f => f.ln
theorem push_line {s : St} {f : Fra} (h : 1 ≤ f.ln) (hd : (pushS s f).2.2.dn = false) : f.ln + 1 ≤ (pushS s f).2.1.ln := by
  revert hd
  unfold pushS
  split
  · intro _; show f.ln + 1 ≤ 2; omega
  split
  · split
    · intro hd; exact absurd hd (by simp)
    · intro _; show f.ln + 1 ≤ 3; omega
  split
  · intro _; show f.ln + 1 ≤ 4; omega
  · intro hd; exact absurd hd (by simp)
theorem steal_line {s : St} {f : Fra} (h : 1 ≤ f.ln) (hd : (stealS s f).2.2.dn = false) : f.ln + 1 ≤ (stealS s f).2.1.ln := by
  revert hd
  unfold stealS
  split
  · intro _; show f.ln + 1 ≤ 2; omega
  split
  · split
    · intro hd; exact absurd hd (by simp)
    · intro _; show f.ln + 1 ≤ 3; omega
  split
  · intro _; show f.ln + 1 ≤ 4; omega
  · intro hd
    exfalso
    revert hd
    show ¬((if s.hit f.qt f.fv then (⟨true, 1, wrap64 f.fw⟩ : Res) else ⟨true, 4, 0⟩).dn = false)
    split <;> simp
theorem pop_line {s : St} {f : Fra} (h : 1 ≤ f.ln) (hd : (popS s f).2.2.dn = false) : f.ln + 1 ≤ (popS s f).2.1.ln := by
  revert hd
  unfold popS
  split
  · intro _; show f.ln + 1 ≤ 2; omega
  split
  · split
    · intro hd; exact absurd hd (by simp)
    · intro _; show f.ln + 1 ≤ 3; omega
  split
  · intro _; show f.ln + 1 ≤ 4; omega
  split
  · intro _
    show f.ln + 1 ≤ pop4 _
    unfold pop4
    split
    · omega
    split <;> omega
  split
  · intro hd; exact absurd hd (by simp)
  split
  · intro _
    show f.ln + 1 ≤ (if s.hit f.qt f.fv then 7 else 9)
    split <;> omega
  split
  · intro _; show f.ln + 1 ≤ 8; omega
  · intro hd; exact absurd hd (by simp)
end Go.Proofs.YtjehiekmlbeaeaaGreat

namespace Go.Proofs.YtjehiekmlbeaeaaGreat
open Go Go.RowKit
set_option linter.unusedSimpArgs false

theorem steal_res (s : St) (f : Fra) : (if s.hit f.qt f.fv then (⟨true, 1, wrap64 f.fw⟩ : Res) else ⟨true, 4, 0⟩).dn = true := by
  split <;> rfl
theorem steal_keeps : Keeps stealS StealOk := by
  refine ⟨fun s f hs h => ?_, fun s f hs h hd => ?_, fun s f hs h => ?_, fun s f h => ?_, fun s f hd => ?_, fun s f => ?_, fun s f => ?_⟩
  · obtain ⟨hl, hu, hv, hq⟩ := h
    unfold stealS
    split
    · exact go_N hs _ _ _ (fun x hx => hx)
    split
    · split <;> exact go_N hs _ _ _ (fun x hx => hx)
    split
    · exact go_N hs _ _ _ (fun x hx => hx)
    · show (s.go 3 f.qt (fun x => if x = f.fv then add1 f.fv else x)).N
      apply go_N hs
      intro x hx
      show 0 ≤ if x = f.fv then add1 f.fv else x
      split
      · exact u64_nn _
      · exact hx
  · obtain ⟨hl, hu, hv, hq⟩ := h
    revert hd
    unfold stealS
    split
    · intro _
      exact ⟨.inr (.inl rfl), hu, hs _, hq⟩
    split
    · split
      · intro hd
        exact absurd hd (by simp)
      · intro _
        exact ⟨.inr (.inr (.inl rfl)), hs _, hv, hq⟩
    split
    · intro _
      exact ⟨.inr (.inr (.inr rfl)), hu, hv, hq⟩
    · intro hd
      exact absurd ((steal_res s f).symm.trans hd) (by simp)
  · obtain ⟨hl, hu, hv, hq⟩ := h
    unfold stealS
    split
    · exact ⟨hu, hs _⟩
    split
    · split <;> exact ⟨hs _, hv⟩
    split <;> exact ⟨hu, hv⟩
  · unfold stealS
    split
    · exact go_c _ _ _ h
    split
    · split <;> exact go_c _ _ _ h
    split <;> exact go_c _ _ _ h
  · revert hd
    unfold stealS
    split
    · intro _; exact ⟨rfl, rfl⟩
    split
    · split
      · intro hd; exact absurd hd (by simp)
      · intro _; exact ⟨rfl, rfl⟩
    split
    · intro _; exact ⟨rfl, rfl⟩
    · intro hd; exact absurd ((steal_res s f).symm.trans hd) (by simp)
  · unfold stealS
    split
    · exact ⟨rfl, rfl, rfl⟩
    split
    · split <;> exact ⟨rfl, rfl, rfl⟩
    split <;> exact ⟨rfl, rfl, rfl⟩
  · unfold stealS
    split
    · exact go_len _ _ _ _
    split
    · split <;> exact go_len _ _ _ _
    split <;> exact go_len _ _ _ _
end Go.Proofs.YtjehiekmlbeaeaaGreat

namespace Go.Proofs.YtjehiekmlbeaeaaGreat
open Go Go.RowKit Go.Shelf
set_option linter.unusedSimpArgs false
set_option linter.unusedVariables false

/-- The value of a machine in block q. -/
def mval (q : Nat) : Mach → Value
  | .no => .nilIface
  | .push _ => .iface 259 (.pointer (some ⟨q, 0, none⟩))
  | .pop _ => .iface 265 (.pointer (some ⟨q, 0, none⟩))
  | .steal _ => .iface 268 (.pointer (some ⟨q, 0, none⟩))
/-- Block q holds it. -/
def MO (w : World) (q : Nat) : Mach → Prop
  | .no => True
  | .push f => OB w q 264 [.int .i64 f.fa] f 0 0 ∧ PushOk f
  | .pop f => OB w q 267 [] f 0 0 ∧ PopOk f
  | .steal f => OB w q 270 [.int .u64 f.fw] f 0 0 ∧ StealOk f
theorem mval_live {M : Mach} (q : Nat) (h : M ≠ .no) : ∃ ty, mval q M = .iface ty (.pointer (some ⟨q, 0, none⟩)) := by
  cases M with
  | no => exact absurd rfl h
  | push f => exact ⟨_, rfl⟩
  | pop f => exact ⟨_, rfl⟩
  | steal f => exact ⟨_, rfl⟩
section
variable {w w' : World} {q : Nat} {M : Mach}
theorem MO.line (h : MO w q M) : M = .no ∨ (1 ≤ M.line ∧ M.line ≤ 9) := by
  cases M with
  | no => exact .inl rfl
  | push f => have := h.2.1; exact .inr (by show 1 ≤ f.ln ∧ f.ln ≤ 9; omega)
  | pop f => have := h.2.1; exact .inr (by show 1 ≤ f.ln ∧ f.ln ≤ 9; omega)
  | steal f => have := h.2.1; exact .inr (by show 1 ≤ f.ln ∧ f.ln ≤ 9; omega)
theorem MO.fr {S : List Nat} (h : MO w q M) (hf : Fr S w w') (hq : M ≠ .no → (∃ ty post f, OB w q ty post f 0 0) → q ∉ S) : MO w' q M := by
  cases M with
  | no => trivial
  | push f => exact ⟨h.1.fr hf (hq (by intro e; cases e) ⟨_, _, _, h.1⟩), h.2⟩
  | pop f => exact ⟨h.1.fr hf (hq (by intro e; cases e) ⟨_, _, _, h.1⟩), h.2⟩
  | steal f => exact ⟨h.1.fr hf (hq (by intro e; cases e) ⟨_, _, _, h.1⟩), h.2⟩
theorem MO.ob (h : MO w q M) (hM : M ≠ .no) : ∃ ty post f, OB w q ty post f 0 0 ∧ (ty = 264 ∨ ty = 267 ∨ ty = 270) := by
  cases M with
  | no => exact absurd rfl hM
  | push f => exact ⟨_, _, _, h.1, .inl rfl⟩
  | pop f => exact ⟨_, _, _, h.1, .inr (.inl rfl)⟩
  | steal f => exact ⟨_, _, _, h.1, .inr (.inr rfl)⟩
theorem MO.below (h : MO w q M) (hb : Below w.heap.size w w') : MO w' q M := by
  cases M with
  | no => trivial
  | push f => exact ⟨h.1.below hb, h.2⟩
  | pop f => exact ⟨h.1.below hb, h.2⟩
  | steal f => exact ⟨h.1.below hb, h.2⟩
end
section
variable {w w' : World}
theorem MO.off {t : TypeId} {cs : Array Value} {b a : Nat} {X : Mach} (h : MO w a X) (hb : Blk w b t cs) (h1 : t ≠ 264) (h2 : t ≠ 267) (h3 : t ≠ 270) (hf : Fr [b] w w') : MO w' a X := by
  cases X with
  | no => trivial
  | push f => exact ⟨h.1.fr hf (by simpa using (hb.apart h.1.blk h1).symm), h.2⟩
  | pop f => exact ⟨h.1.fr hf (by simpa using (hb.apart h.1.blk h2).symm), h.2⟩
  | steal f => exact ⟨h.1.fr hf (by simpa using (hb.apart h.1.blk h3).symm), h.2⟩
end
theorem pushOkP (n : Int) (hn : n ≤ 100) (v : Int) : PushOk (fra1 0 0 1 2 n v) := ⟨.inl rfl, Int.le_refl _, Int.le_refl _, by show n ≤ _; omega⟩
theorem popOkP (n : Int) (hn : n ≤ 100) : PopOk (fra1 1 0 1 2 n 0) := ⟨.inl rfl, Int.le_refl _, Int.le_refl _, by show n ≤ _; omega⟩
theorem stealOkP (n : Int) (hn : n ≤ 100) : StealOk (fra1 2 0 1 2 n 0) := ⟨.inl rfl, Int.le_refl _, Int.le_refl _, by show n ≤ _; omega⟩
theorem eql_machP {q : Nat} {X : Mach} {V : Value} (h : mval q X = V) : ∃ bn : Bool, (bn = true ↔ X = .no) ∧ (∀ W : World, (binOp .eql 86 V .nilIface).run Tryz.prog W = .ok (.bool bn) W) ∧ (∀ W : World, (binOp .neq 86 V .nilIface).run Tryz.prog W = .ok (.bool (!bn)) W)
    ∧ (∀ (W : World) (x : Operand), (eqGuard .eql 86 x (.const .nilIface) V .nilIface).run Tryz.prog W = .ok () W) ∧ ∀ (W : World) (x : Operand), (eqGuard .neq 86 x (.const .nilIface) V .nilIface).run Tryz.prog W = .ok () W := by
  subst h
  cases X with
  | no => exact ⟨true, by simp, fun W => by kernel_rfl, fun W => by kernel_rfl, fun W x => by cases x <;> rfl, fun W x => by cases x <;> rfl⟩
  | push f => exact ⟨false, by simp, fun W => by kernel_rfl, fun W => by kernel_rfl, fun W x => rfl, fun W x => rfl⟩
  | pop f => exact ⟨false, by simp, fun W => by kernel_rfl, fun W => by kernel_rfl, fun W x => rfl, fun W x => rfl⟩
  | steal f => exact ⟨false, by simp, fun W => by kernel_rfl, fun W => by kernel_rfl, fun W x => rfl, fun W x => rfl⟩
end Go.Proofs.YtjehiekmlbeaeaaGreat
