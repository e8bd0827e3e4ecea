/-
  What the laws about an owner and thieves alone carry along. (Written by wip/gen_oaw.py.)
  workstealmatch.Alone of the thief. (Written by wip/gen_alone.py.)
  Plain mathematics of one deque, one owner and several thieves, whose steps are interleaved: what each step does to the list of entries. No function is named but those of OwM.
-/
import Derived.Test.YtplifdmfoeejaaaGreatOwM
import Derived.Test.YtplifdmfoeejaaaGreatMgBE
import Derived.Test.YtplifdmfoeejaaaGreatMgBC
namespace Go.Proofs.YtplifdmfoeejaaaGreat
open Go Go.RowKit Go.Shelf
set_option linter.unusedSimpArgs false
set_option linter.unusedVariables false

theorem runS_N {stp : St → Fra → St × Fra × Res} {ok : Fra → Prop} (hk : Keeps stp ok) : ∀ (k : Nat) {s s' : St} {f : Fra} {r : Res} {N : Nat}, s.N → ok f → runS stp k s f = some (s', r, N) → s'.N
  | 0, _, _, _, _, _, _, _, h => by simp [runS] at h
  | k + 1, s, s', f, r, N, hn, ho, h => by
    cases hd : (stp s f).2.2.dn with
    | true =>
      obtain ⟨e, _, _⟩ := runS_end h hd
      rw [← e]
      exact hk.n s f hn ho
    | false =>
      obtain ⟨M, e, _⟩ := runS_on h hd
      exact runS_N hk k (hk.n s f hn ho) (hk.o s f hn ho hd) e

theorem pushOk1 (n : Int) (hn : n ≤ 100) (v : Int) : PushOk (fra1 0 0 1 2 n v) := ⟨.inl rfl, Int.le_refl _, Int.le_refl _, by show n ≤ _; omega⟩
theorem popOk1 (n : Int) (hn : n ≤ 100) : PopOk (fra1 1 0 1 2 n 0) := ⟨.inl rfl, Int.le_refl _, Int.le_refl _, by show n ≤ _; omega⟩

/-- What a law about an owner alone carries along: the program's environment, its deque's value (block qb); all of it is newer than w0. -/
structure AW (w0 : World) (p m k g cap : Nat) (hd : List Value) (rv ev : Value) (t d : Int) (qb n : Nat) (s : St) (w : World) : Prop where
  e : PE w p m k g cap s t d hd rv ev
  q : Blk w qb 27 (qcells 0 1 2 n)
  n : s.N
  b : Below w0.heap.size w0 w
  lo : w0.heap.size ≤ p ∧ w0.heap.size ≤ m ∧ w0.heap.size ≤ k ∧ w0.heap.size ≤ g ∧ w0.heap.size ≤ qb
section
variable {w0 w w' : World} {p m k g cap : Nat} {hd : List Value} {rv ev : Value} {t d : Int} {qb n : Nat} {s s' : St}
theorem AW.below (h : AW w0 p m k g cap hd rv ev t d qb n s w) (hb : Below w.heap.size w w') : AW w0 p m k g cap hd rv ev t d qb n s w' :=
  ⟨h.e.below hb, h.q.below hb, h.n, h.b.trans (hb.mono h.b.size), h.lo⟩
theorem AW.done (h : AW w0 p m k g cap hd rv ev t d qb n s w) {x : Nat} {ty : TypeId} {post : List Value} {f : Fra} {cd vl : Int} (ho : OB w x ty post f cd vl) (ht : ty ≠ 27) (hx : w0.heap.size ≤ x) (hp : PE w' p m k g cap s' t d hd rv ev) (hf : Fr [m, g, x] w w') (hn : s'.N) : AW w0 p m k g cap hd rv ev t d qb n s' w' := by
  obtain ⟨cur, hg, _⟩ := h.e.mem.row.blk
  refine ⟨hp, h.q.of_same (hf.block qb h.q.lt ?_), hn, below_of_fr h.b hf (fun y hy => ?_), h.lo⟩
  · simp only [List.mem_cons, List.not_mem_nil, or_false, not_or]
    exact ⟨h.q.apart h.e.mem.blk (by decide), h.q.apart hg (by decide), h.q.apart ho.blk (fun e => ht e.symm)⟩
  · simp only [List.mem_cons, List.not_mem_nil, or_false] at hy
    rcases hy with rfl | rfl | rfl
    · exact h.lo.2.1
    · exact h.lo.2.2.2.1
    · exact hx
end
theorem dq_new : DQ (St.new 4) 2 0 [] := ⟨by simp [St.new], by decide, by decide, by simp, fun i hi => by simp at hi, by omega⟩
theorem new_N (n : Nat) : (St.new n).N := N_of (fun j hj => by
  have : (St.new n).X.getD j 0 = 0 := by
    show (List.replicate n (0 : Int)).getD j 0 = 0
    rw [List.getD_eq_getElem?_getD, List.getElem?_replicate]
    split <;> rfl
  omega)

theorem Row.inNN {X : List Int} (h : ∀ x, x ∈ X → 0 ≤ x) {s : St} (e : s.X = X) : s.N := N_of (fun j hj => by
  rw [e] at hj ⊢
  rw [List.getD_eq_getElem?_getD, List.getElem?_eq_getElem hj]
  exact h _ (List.getElem_mem hj))
end Go.Proofs.YtplifdmfoeejaaaGreat

namespace Go.Proofs.YtplifdmfoeejaaaGreat
open Go Go.RowKit Go.Shelf
set_option linter.unusedSimpArgs false

/-- What its loop keeps. -/
def AloR_stealer (w : World) (p m k g cap : Nat) (s' : St) (t d : Int) (hd : List Value) (rv ev : Value) (q : Nat) (r : Res) (N : Nat) (i : Value) (wr : World) : Prop :=
  ∃ (j : Nat) (s : St) (x : Fra), j ≤ 20 ∧ i = .int .i64 j ∧ PE wr p m k g cap s t d hd rv ev ∧ OB wr q 104 [.int .u64 x.fw] x 0 0 ∧ s.N ∧ StealOk x ∧ (∃ M, runS stealS (20 - j) s x = some (s', r, M) ∧ M + j = N) ∧ Fr [m, g, q] w wr
set_option maxRecDepth 100000 in
set_option maxHeartbeats 4000000 in
theorem alone_stealer {w : World} {p m k g cap : Nat} {s s' : St} {t d : Int} {hd : List Value} {rv ev : Value} {q : Nat} {x : Fra} {r : Res} {N : Nat} (hp : PE w p m k g cap s t d hd rv ev) (h : OB w q 104 [.int .u64 x.fw] x 0 0) (hn : s.N) (hk : StealOk x) (hr : runS stealS 20 s x = some (s', r, N)) :
    Calls Tryz.prog 27 #[.pointer (some ⟨p, 0, none⟩), .iface 102 (.pointer (some ⟨q, 0, none⟩)), .int .i64 20] w (Aloned w p m k g cap s' t d hd rv ev q r N) := by
  have HST := Lib.hid (show AloR_stealer w p m k g cap s' t d hd rv ev q r N (.int .i64 0) w from ⟨0, s, x, by omega, rfl, hp, h, hn, hk, ⟨N, hr, rfl⟩, Fr.refl _ _⟩)
  clear hp h hn hk hr
  have km := meth_step_stealer q
  have ka := ahead_step_stealer q
  have kr := meth_result_stealer q
  have kb := ahead_result_stealer q
  go_enter Tryz.func27, Tryz.ntmps27
  go_wp2_with fail
  go_loopw [8] (fun i wr => AloR_stealer w p m k g cap s' t d hd rv ev q r N i wr) (fun i _ => 20 - (intOf i).toNat)
  case atStart => exact HST.out
  case round =>
    clear HST
    obtain ⟨j, sj, x, hj, rfl, hp, ho, hn, hk, ⟨M, hr, hM⟩, hf⟩ := hrel
    have hj20 : j < 20 := by
      rcases Nat.lt_or_ge j 20 with h | h
      · exact h
      · obtain rfl : j = 20 := by omega
        simp [runS] at hr
    obtain ⟨l, hl⟩ : ∃ l, 20 - j = l + 1 := ⟨19 - j, by omega⟩
    rw [hl] at hr
    have HP := Lib.hid hp
    have HO := Lib.hid ho
    have HK := Lib.hid (And.intro hn (And.intro hk (And.intro hl hM)))
    have HR := Lib.hid hr
    have HF := Lib.hid hf
    clear hp ho hn hk hr hf hl hM
    have ej : wrap64 ((j : Int) + 1) = ((j + 1 : Nat) : Int) := by unfold wrap64; omega
    have hlt : (j : Int) < 20 := by omega
    have HS := Lib.hid (stealer_any HP.out HO.out HK.out.2.1.1 HK.out.2.1.2.2.1 HK.out.2.1.2.2.2)
    cases hdn : (stealS sj x).2.2.dn with
    | true =>
      obtain ⟨e1, e2, e3⟩ := runS_end HR.out hdn
      go_wp2_with fail
      (with_reducible refine HS.out.mono ?_)
      rintro e w1 ⟨rfl, hp1, hb1, hf1⟩
      have HB1 := Lib.hid hb1
      have HQ := Lib.hid (And.intro e1 (And.intro e2 e3))
      have HP1 := Lib.hid hp1
      have HF1 := Lib.hid (HF.out.trans hf1)
      clear hb1 hp1 hf1 e1 e2 e3
      rw [hdn]
      go_wp2_with fail
      (with_reducible refine (oresult_any HB1.out).mono ?_)
      rintro e w2 ⟨rfl, nd, rfl⟩
      go_wp2_with fail
      go_ret3
      obtain ⟨e1, e2, e3⟩ := HQ.out
      have eN : j + 1 = N := by have := HK.out.2.2.2; omega
      subst eN
      rw [← e2]
      have hP := HP1.out.drewN nd
      rw [e1] at hP
      exact ⟨rfl, hP, HF1.out.drewN nd⟩
    | false =>
      obtain ⟨M2, e1, e2⟩ := runS_on HR.out hdn
      have HQ := Lib.hid (And.intro e1 e2)
      clear e1 e2
      go_wp2_with fail
      (with_reducible refine HS.out.mono ?_)
      rintro e w1 ⟨rfl, hp1, hb1, hf1⟩
      rw [hdn] at hb1
      have HB1 := Lib.hid hb1
      have HP1 := Lib.hid hp1
      have HF1 := Lib.hid (HF.out.trans hf1)
      clear hb1 hp1 hf1
      rw [hdn]
      go_wp2_with fail
      go_roundw
      case rel =>
        obtain ⟨e1, e2⟩ := HQ.out
        have hz := steal_keeps.z sj x hdn
        have hb := HB1.out
        simp only [Bool.false_eq_true, if_false] at hb
        rw [hz.1, hz.2] at hb
        refine ⟨j + 1, (stealS sj x).1, (stealS sj x).2.1, by omega, by go_num, HP1.out, ?_, steal_keeps.n _ _ HK.out.1 HK.out.2.1, steal_keeps.o _ _ HK.out.1 HK.out.2.1 hdn, ⟨M2, ?_, ?_⟩, HF1.out⟩
        · exact hb
        · rw [show 20 - (j + 1) = l by have := HK.out.2.2.1; omega]
          exact e1
        · have := HK.out.2.2.2
          omega
      case measure => simp [intOf]; omega

end Go.Proofs.YtplifdmfoeejaaaGreat

namespace Go.Proofs.YtplifdmfoeejaaaGreat
open Go Go.RowKit
set_option linter.unusedSimpArgs false
set_option linter.unusedVariables false

/-- The entries are L; the first one has the index T. -/
structure CL (s : St) (n t0 T : Nat) (L : List Int) : Prop where
  nn : 1 ≤ n ∧ n ≤ 100
  len : n + 2 ≤ s.X.length
  top : s.old 0 = T
  cap : L.length ≤ n
  lim : t0 ≤ T ∧ T + L.length < t0 + 1000000 ∧ t0 < 9223372036854775808
  ent : ∀ i, i < L.length → s.old ((2 + (T + i) % n : Nat) : Int) = L.getD i 0
/-- Where a push stands. -/
def PuW (s : St) (n T : Nat) (L : List Int) (f : Fra) : Prop :=
  f.qt = 0 ∧ f.qb = 1 ∧ f.qr = 2 ∧ f.qc = n ∧ s.old 1 = ((T + L.length : Nat) : Int) ∧
    (f.ln = 1 ∨ (f.ln = 2 ∧ f.fu = ((T + L.length : Nat) : Int)) ∨ (f.ln = 3 ∧ f.fu = ((T + L.length : Nat) : Int) ∧ L.length < n) ∨
      (f.ln = 4 ∧ f.fu = ((T + L.length : Nat) : Int) ∧ L.length < n ∧ s.old ((2 + (T + L.length) % n : Nat) : Int) = IntKind.u64.wrap f.fa))
/-- Where a pop stands; cl is the word that it has taken and not returned yet. -/
def PoW (s : St) (n T : Nat) (L : List Int) (f : Fra) (cl : Option Int) : Prop :=
  f.qt = 0 ∧ f.qb = 1 ∧ f.qr = 2 ∧ f.qc = n ∧
    ((f.ln = 1 ∧ s.old 1 = ((T + L.length : Nat) : Int) ∧ cl = none) ∨
     (f.ln = 2 ∧ f.fu = ((T + L.length : Nat) : Int) ∧ s.old 1 = ((T + L.length : Nat) : Int) ∧ cl = none) ∨
     (f.ln = 3 ∧ f.fu = ((T + L.length : Nat) : Int) ∧ s.old 1 = ((T + L.length : Nat) : Int) ∧ 1 ≤ T + L.length ∧ cl = none) ∨
     (f.ln = 4 ∧ f.fu = ((T + L.length : Nat) : Int) ∧ s.old 1 = ((T + L.length - 1 : Nat) : Int) ∧ 1 ≤ T + L.length ∧ cl = none) ∨
     (f.ln = 5 ∧ f.fu = ((T + L.length + 1 : Nat) : Int) ∧ s.old 1 = ((T + L.length : Nat) : Int) ∧ L.length < n ∧ cl = some (s.old ((2 + (T + L.length) % n : Nat) : Int))) ∨
     (f.ln = 6 ∧ f.fu = ((T + L.length : Nat) : Int) ∧ f.fv = ((T + L.length - 1 : Nat) : Int) ∧ s.old 1 = ((T + L.length - 1 : Nat) : Int) ∧ 1 ≤ T + L.length ∧ L.length ≤ 1 ∧ cl = none) ∨
     (f.ln = 7 ∧ f.fu = (T : Int) ∧ s.old 1 = ((T - 1 : Nat) : Int) ∧ 1 ≤ T ∧ L = [] ∧ cl = some (s.old ((2 + (T - 1) % n : Nat) : Int))) ∨
     (f.ln = 8 ∧ f.fu = (T : Int) ∧ s.old 1 = (T : Int) ∧ 1 ≤ T ∧ L = [] ∧ cl = some (s.old ((2 + (T - 1) % n : Nat) : Int))) ∨
     (f.ln = 9 ∧ f.fu = (T : Int) ∧ s.old 1 = ((T - 1 : Nat) : Int) ∧ 1 ≤ T ∧ L = [] ∧ cl = none))
/-- What the owner does: nothing, a push, a pop. -/
inductive Own where
  | rest
  | push (f : Fra)
  | pop (f : Fra)
def OW (s : St) (n T : Nat) (L : List Int) (cl : Option Int) : Own → Prop
  | .rest => s.old 1 = ((T + L.length : Nat) : Int) ∧ cl = none
  | .push f => PuW s n T L f ∧ cl = none
  | .pop f => PoW s n T L f cl
/-- Where a steal stands. -/
def TH (n t0 T : Nat) (L : List Int) (f : Fra) : Prop :=
  f.qt = 0 ∧ f.qb = 1 ∧ f.qr = 2 ∧ f.qc = n ∧
    (f.ln = 1 ∨ ∃ t : Nat, t0 ≤ t ∧ t ≤ T ∧ f.fv = (t : Int) ∧ (f.ln = 2 ∨ (f.ln = 3 ∧ (t = T → 0 < L.length)) ∨ (f.ln = 4 ∧ (t = T → 0 < L.length ∧ f.fw = L.getD 0 0))))

section
variable {s : St} {n t0 T : Nat} {L : List Int} {cl : Option Int}
theorem CL.load (h : CL s n t0 T L) (k i : Int) : CL (s.go k i id) n t0 T L :=
  ⟨h.nn, by rw [go_len]; exact h.len, by rw [go_id_old]; exact h.top, h.cap, h.lim, fun j hj => by rw [go_id_old]; exact h.ent j hj⟩
theorem OW.same {s' : St} {o : Own} (h : OW s n T L cl o) (e : ∀ j, s'.old j = s.old j) : OW s' n T L cl o := by
  cases o with
  | rest => exact ⟨by rw [e]; exact h.1, h.2⟩
  | push f =>
    obtain ⟨h1, h2⟩ := h
    unfold OW PuW at *
    simp only [e]
    exact ⟨h1, h2⟩
  | pop f =>
    unfold OW PoW at *
    simp only [e]
    exact h
/-- Bottom is at most one less than the end. -/
theorem OW.bot {o : Own} (h : OW s n T L cl o) : ∃ u : Nat, s.old 1 = (u : Int) ∧ u ≤ T + L.length ∧ T + L.length ≤ u + 1 := by
  cases o with
  | rest => exact ⟨_, h.1, by omega, by omega⟩
  | push f => exact ⟨_, h.1.2.2.2.2.1, by omega, by omega⟩
  | pop f =>
    obtain ⟨_, _, _, _, h⟩ := h
    rcases h with ⟨_, h, _⟩ | ⟨_, _, h, _⟩ | ⟨_, _, h, _⟩ | ⟨_, _, h, _⟩ | ⟨_, _, h, _⟩ | ⟨_, _, _, h, _⟩ | ⟨_, _, h, _, e, _⟩ | ⟨_, _, h, _, e, _⟩ | ⟨_, _, h, _, e, _⟩
    · exact ⟨_, h, by omega, by omega⟩
    · exact ⟨_, h, by omega, by omega⟩
    · exact ⟨_, h, by omega, by omega⟩
    · exact ⟨_, h, by omega, by omega⟩
    · exact ⟨_, h, by omega, by omega⟩
    · exact ⟨_, h, by omega, by omega⟩
    · subst e; exact ⟨_, h, by simp, by simp; omega⟩
    · subst e; exact ⟨_, h, by simp, by simp⟩
    · subst e; exact ⟨_, h, by simp, by simp; omega⟩
theorem TH.tail {x : Int} {f : Fra} (h : TH n t0 T (x :: L) f) : TH n t0 (T + 1) L f := by
  obtain ⟨h1, h2, h3, h4, h⟩ := h
  refine ⟨h1, h2, h3, h4, ?_⟩
  rcases h with h | ⟨t, a, b, c, h⟩
  · exact .inl h
  · refine .inr ⟨t, a, by omega, c, ?_⟩
    rcases h with h | ⟨h, _⟩ | ⟨h, _⟩
    · exact .inl h
    · exact .inr (.inl ⟨h, fun e => by omega⟩)
    · exact .inr (.inr ⟨h, fun e => by omega⟩)
theorem TH.keep {L' : List Int} {f : Fra} (h : TH n t0 T L f) (hl : 0 < L.length → 0 < L'.length ∧ L'.getD 0 0 = L.getD 0 0) : TH n t0 T L' f := by
  obtain ⟨h1, h2, h3, h4, h⟩ := h
  refine ⟨h1, h2, h3, h4, ?_⟩
  rcases h with h | ⟨t, a, b, c, h⟩
  · exact .inl h
  · refine .inr ⟨t, a, b, c, ?_⟩
    rcases h with h | ⟨h, k⟩ | ⟨h, k⟩
    · exact .inl h
    · exact .inr (.inl ⟨h, fun e => (hl (k e)).1⟩)
    · exact .inr (.inr ⟨h, fun e => ⟨(hl (k e).1).1, by rw [(hl (k e).1).2]; exact (k e).2⟩⟩)
theorem size_int {u t : Nat} (h : u < t + 1000000) (h' : t ≤ u + 1000000) (hb : u < 18446744073709551616 ∧ t < 18446744073709551616) : sizeI (u : Int) (t : Int) = (u : Int) - (t : Int) := by
  unfold sizeI
  rw [IntKind.wrap_u64]
  unfold wrap64
  omega
/-- The head goes: an entry is taken at Top. -/
theorem CL.head {x : Int} {k : Int} {F : Int → Int} (h : CL s n t0 T (x :: L)) (hF : F (T : Int) = ((T + 1 : Nat) : Int)) : CL (s.go k 0 F) n t0 (T + 1) L := by
  have hl := h.lim
  have hc := h.cap
  simp only [List.length_cons] at hl hc
  have hh : s.has 0 := ⟨by omega, by have := h.len; omega⟩
  refine ⟨h.nn, by rw [go_len]; exact h.len, ?_, by omega, ⟨by omega, by omega, hl.2.2⟩, fun i hi => ?_⟩
  · rw [go_old _ _ _ _ hh, h.top]
    exact hF
  · rw [go_other _ _ _ _ _ (by omega)]
    have := h.ent (i + 1) (by simp; omega)
    rw [show T + (i + 1) = T + 1 + i by omega] at this
    rw [this]
    simp
/-- .. and the owner does not mind. -/
theorem OW.head {x : Int} {k : Int} {F : Int → Int} {o : Own} (h : OW s n T (x :: L) cl o) : OW (s.go k 0 F) n (T + 1) L cl o := by
  have e : ∀ j, j ≠ 0 → (s.go k 0 F).old j = s.old j := fun j hj => go_other _ _ _ _ _ (fun e => hj e.symm)
  have e1 : (s.go k 0 F).old 1 = s.old 1 := e 1 (by omega)
  have e2 : ∀ j : Nat, (s.go k 0 F).old ((2 + j : Nat) : Int) = s.old ((2 + j : Nat) : Int) := fun j => e _ (by omega)
  have hT : T + (x :: L).length = T + 1 + L.length := by simp; omega
  cases o with
  | rest =>
    refine ⟨?_, h.2⟩
    rw [e1, ← hT]
    exact h.1
  | push f =>
    obtain ⟨⟨h1, h2, h3, h4, h5, h⟩, hc⟩ := h
    rw [hT] at h5 h
    refine ⟨⟨h1, h2, h3, h4, by rw [e1]; exact h5, ?_⟩, hc⟩
    rcases h with h | h | ⟨h, k1, k2⟩ | ⟨h, k1, k2, k3⟩
    · exact .inl h
    · exact .inr (.inl h)
    · exact .inr (.inr (.inl ⟨h, k1, by have := k2; simp only [List.length_cons] at this; omega⟩))
    · exact .inr (.inr (.inr ⟨h, k1, by have := k2; simp only [List.length_cons] at this; omega, by rw [e2]; exact k3⟩))
  | pop f =>
    obtain ⟨h1, h2, h3, h4, h⟩ := h
    rw [hT] at h
    refine ⟨h1, h2, h3, h4, ?_⟩
    rw [e1, e2, e2]
    rcases h with h | h | h | h | ⟨h, k1, k2, k3, k4⟩ | ⟨h, k1, k2, k3, k4, k5, k6⟩ | ⟨_, _, _, _, h, _⟩ | ⟨_, _, _, _, h, _⟩ | ⟨_, _, _, _, h, _⟩
    · exact .inl h
    · exact .inr (.inl h)
    · exact .inr (.inr (.inl h))
    · exact .inr (.inr (.inr (.inl h)))
    · exact .inr (.inr (.inr (.inr (.inl ⟨h, k1, k2, by have := k3; simp only [List.length_cons] at this; omega, k4⟩))))
    · exact .inr (.inr (.inr (.inr (.inr (.inl ⟨h, k1, k2, k3, k4, by have := k5; simp only [List.length_cons] at this; omega, k6⟩)))))
    · cases h
    · cases h
    · cases h

/-- A step of a steal. -/
theorem thief_step {f : Fra} {o : Own} (h : CL s n t0 T L) (ho : OW s n T L cl o) (hf : TH n t0 T L f) : ∃ T' L', T' + L'.length ≤ T + L.length ∧ CL (stealS s f).1 n t0 T' L' ∧ OW (stealS s f).1 n T' L' cl o ∧ (∀ g, TH n t0 T L g → TH n t0 T' L' g) ∧
    ((stealS s f).2.2.dn = false → TH n t0 T' L' (stealS s f).2.1 ∧ L' = L) ∧
    ((stealS s f).2.2.dn = true → ((stealS s f).2.2.cd = 1 ∧ ∃ x, L = x :: L' ∧ (stealS s f).2.2.vl = wrap64 x) ∨ ((stealS s f).2.2.cd ≠ 1 ∧ L' = L)) := by
  have hlim := h.lim
  have hnn := h.nn
  obtain ⟨h1, h2, h3, h4, hl⟩ := hf
  rcases hl with hl | ⟨t, ht0, htT, hv, hl | ⟨hl, hk⟩ | ⟨hl, hk⟩⟩
  · have e : stealS s f = (s.go 1 f.qt id, { f with fv := s.old f.qt, ln := 2 }, .none) := by unfold stealS; rw [if_pos hl]
    rw [e]
    refine ⟨T, L, Nat.le_refl _, h.load _ _, ho.same (fun j => go_id_old _ _ _ _), fun g hg => hg, fun _ => ⟨⟨h1, h2, h3, h4, .inr ⟨T, hlim.1, Nat.le_refl _, ?_, .inl rfl⟩⟩, rfl⟩, fun hd => by cases hd⟩
    show s.old f.qt = _
    rw [h1]
    exact h.top
  · obtain ⟨u, hu, hu1, hu2⟩ := ho.bot
    have hsz : sizeI (s.old f.qb) f.fv = (u : Int) - (t : Int) := by
      rw [h2, hv, hu]
      exact size_int (by omega) (by omega) (by omega)
    by_cases hc : sizeI (s.old f.qb) f.fv ≤ 0
    · have e : stealS s f = (s.go 1 f.qb id, { f with fu := s.old f.qb }, ⟨true, 2, 0⟩) := by unfold stealS; rw [if_neg (by omega), if_pos hl, if_pos hc]
      rw [e]
      exact ⟨T, L, Nat.le_refl _, h.load _ _, ho.same (fun j => go_id_old _ _ _ _), fun g hg => hg, fun hd => by simp at hd, fun _ => .inr ⟨by show (2 : Int) ≠ 1; decide, rfl⟩⟩
    · have e : stealS s f = (s.go 1 f.qb id, { f with fu := s.old f.qb, ln := 3 }, .none) := by unfold stealS; rw [if_neg (by omega), if_pos hl, if_neg hc]
      rw [e]
      exact ⟨T, L, Nat.le_refl _, h.load _ _, ho.same (fun j => go_id_old _ _ _ _), fun g hg => hg, fun _ => ⟨⟨h1, h2, h3, h4, .inr ⟨t, ht0, htT, hv, .inr (.inl ⟨rfl, fun e => by omega⟩)⟩⟩, rfl⟩, fun hd => by cases hd⟩
  · have e : stealS s f = (s.go 1 (ringI f.qr f.qc f.fv) id, { f with fw := s.old (ringI f.qr f.qc f.fv), ln := 4 }, .none) := by unfold stealS; rw [if_neg (by omega), if_neg (by omega), if_pos hl]
    rw [e]
    refine ⟨T, L, Nat.le_refl _, h.load _ _, ho.same (fun j => go_id_old _ _ _ _), fun g hg => hg, fun _ => ⟨⟨h1, h2, h3, h4, .inr ⟨t, ht0, htT, hv, .inr (.inr ⟨rfl, fun e => ⟨hk e, ?_⟩⟩)⟩⟩, rfl⟩, fun hd => by cases hd⟩
    show s.old (ringI f.qr f.qc f.fv) = _
    rw [h3, h4, hv, ring_of n hnn, e]
    have := h.ent 0 (hk e)
    rwa [Nat.add_zero] at this
  · have hh : s.has 0 := ⟨by omega, by have := h.len; omega⟩
    have e : stealS s f = (s.go 3 f.qt (fun x => if x = f.fv then add1 f.fv else x), f, if s.hit f.qt f.fv then ⟨true, 1, wrap64 f.fw⟩ else ⟨true, 4, 0⟩) := by unfold stealS; rw [if_neg (by omega), if_neg (by omega), if_neg (by omega)]
    rw [e, h1, hv]
    have hhit : s.hit 0 (t : Int) = decide (t = T) := by
      unfold St.hit
      rw [decide_eq_true hh, h.top, Bool.true_and, Bool.eq_iff_iff]
      simp
      omega
    by_cases htt : t = T
    · obtain ⟨k1, k2⟩ := hk htt
      obtain ⟨x, L', rfl⟩ : ∃ x L', L = x :: L' := by
        cases L with
        | nil => simp at k1
        | cons x L' => exact ⟨x, L', rfl⟩
      rw [hhit, decide_eq_true htt]
      refine ⟨T + 1, L', (by simp only [List.length_cons]; omega), CL.head (F := fun x => if x = (t : Int) then add1 (t : Int) else x) h ?_, OW.head (F := fun x => if x = (t : Int) then add1 (t : Int) else x) ho, fun g hg => hg.tail, fun hd => by simp at hd, fun _ => .inl ⟨rfl, x, rfl, ?_⟩⟩
      · show (if (T : Int) = (t : Int) then add1 (t : Int) else (T : Int)) = _
        rw [if_pos (by omega), htt]
        show IntKind.u64.wrap _ = _
        rw [IntWalk.u64_in _ (by omega)]
        omega
      · show wrap64 f.fw = wrap64 x
        rw [k2]
        rfl
    · rw [hhit, decide_eq_false htt]
      have hsame : ∀ j, (s.go 3 0 (fun x => if x = (t : Int) then add1 (t : Int) else x)).old j = s.old j := by
        intro j
        by_cases hj : (0 : Int) = j
        · subst hj
          rw [go_old _ _ _ _ hh, h.top, if_neg (by omega)]
        · exact go_other _ _ _ _ _ hj
      refine ⟨T, L, Nat.le_refl _, ⟨h.nn, by rw [go_len]; exact h.len, by rw [hsame]; exact h.top, h.cap, h.lim, fun i hi => by rw [hsame]; exact h.ent i hi⟩, ho.same hsame, fun g hg => hg, fun hd => by simp at hd, fun _ => .inr ⟨by simp, rfl⟩⟩
end
end Go.Proofs.YtplifdmfoeejaaaGreat
