/-
  Plain mathematics of histories: operations, what each does to a list, orders of them. No function is named.
  Plain mathematics of histories: what a machine's beginning and each of its steps does to all. No function is named.
-/
import Derived.Test.YtjehiekmlbeaeaaGreatClP
import Derived.Test.YtjehiekmlbeaeaaGreatMgAI
namespace Go.Proofs.YtjehiekmlbeaeaaGreat
open Go Go.RowKit
set_option linter.unusedSimpArgs false
set_option linter.unusedVariables false

/-- An operation: its kind, its machine, when it began and ended, its code, its value. -/
structure OpR where
  k : Int
  m : Int
  a : Int
  b : Int
  c : Int
  v : Int
deriving DecidableEq
/-- What an operation does to a list, if it can have its result. -/
def appO (cap : Int) (o : OpR) (l : List Int) : Option (List Int) :=
  if o.c = 0 then (if (l.length : Int) < cap then some (l ++ [o.v]) else none)
  else if o.c = 3 then (if cap ≤ l.length then some l else none)
  else if o.c = 2 then (if l.length = 0 then some l else none)
  else if o.c = 4 then some l
  else if l.length = 0 then none
  else if o.k = 1 then (if l.getLastD 0 = o.v then some l.dropLast else none)
  else (if l.headD 0 = o.v then some l.tail else none)
/-- .. one after another. -/
def runL (cap : Int) : List OpR → List Int → Option (List Int)
  | [], l => some l
  | o :: os, l => (appO cap o l).bind (runL cap os)
theorem runL_append (cap : Int) (A B : List OpR) (l : List Int) : runL cap (A ++ B) l = (runL cap A l).bind (runL cap B) := by
  induction A generalizing l with
  | nil => rfl
  | cons o A ih =>
    show (appO cap o l).bind (runL cap (A ++ B)) = ((appO cap o l).bind (runL cap A)).bind (runL cap B)
    cases appO cap o l with
    | none => rfl
    | some l' => exact ih l'
theorem runL_snoc {cap : Int} {A : List OpR} {l l' : List Int} {o : OpR} (h : runL cap A [] = some l) (ho : appO cap o l = some l') : runL cap (A ++ [o]) [] = some l' := by
  rw [runL_append, h]
  show (appO cap o l).bind (runL cap []) = _
  rw [ho]
  rfl
/-- Operations without effect on an empty list. -/
def Idle (o : OpR) : Prop := o.k = 2 ∧ (o.c = 2 ∨ o.c = 4)
theorem runL_idle {cap : Int} {B : List OpR} (h : ∀ o, o ∈ B → Idle o) : runL cap B [] = some [] := by
  induction B with
  | nil => rfl
  | cons o B ih =>
    show (appO cap o []).bind (runL cap B) = _
    have : appO cap o [] = some [] := by
      unfold appO
      rcases (h o (List.mem_cons_self ..)).2 with e | e
      · rw [e]; rfl
      · rw [e]; rfl
    rw [this]
    exact ih fun x hx => h x (List.mem_cons_of_mem _ hx)
/-- The one does not end before the other one begins. -/
def RT (x y : OpR) : Prop := x.a ≤ y.b
/-- Whether operations can be put in order: performed so on an empty list, each can have its result, and none comes before one that ended before it began. -/
def LinP (cap : Int) (ops : List OpR) : Prop := ∃ ord, ord.Perm ops ∧ ord.Pairwise RT ∧ ∃ l, runL cap ord [] = some l
theorem wrapI (x : Int) : IntKind.i64.wrap x = wrap64 x := by
  rw [IntKind.wrap_i64]
  unfold wrap64
  omega
theorem wrapWU (x : Int) : wrap64 (IntKind.u64.wrap x) = wrap64 x := by
  rw [IntKind.wrap_u64]
  unfold wrap64
  omega
section
variable {cap : Int} {o : OpR} {l : List Int}
theorem appO_fine (h : o.c = 0) (hl : (l.length : Int) < cap) : appO cap o l = some (l ++ [o.v]) := by
  unfold appO
  rw [if_pos h, if_pos hl]
theorem appO_full (h : o.c = 3) (hl : cap ≤ (l.length : Int)) : appO cap o l = some l := by
  unfold appO
  rw [if_neg (by omega), if_pos h, if_pos hl]
theorem appO_none (h : o.c = 2) (hl : l = []) : appO cap o l = some l := by
  subst hl
  unfold appO
  rw [if_neg (by omega), if_neg (by omega), if_pos h, if_pos (show ([] : List Int).length = 0 from rfl)]
theorem appO_abort (h : o.c = 4) : appO cap o l = some l := by
  unfold appO
  rw [if_neg (by omega), if_neg (by omega), if_neg (by omega), if_pos h]
theorem appO_pop (h : o.c = 1) (hk : o.k = 1) : appO cap o (l ++ [o.v]) = some l := by
  unfold appO
  rw [if_neg (by omega), if_neg (by omega), if_neg (by omega), if_neg (by omega), if_neg (by simp), if_pos hk, if_pos (by simp), List.dropLast_concat]
theorem appO_steal (h : o.c = 1) (hk : o.k = 2) : appO cap o (o.v :: l) = some l := by
  unfold appO
  rw [if_neg (by omega), if_neg (by omega), if_neg (by omega), if_neg (by omega), if_neg (by simp), if_neg (by omega), if_pos (show (o.v :: l).headD 0 = o.v from rfl)]
  rfl
end

/-- No operation ends so late: the end of a pop that has taken its entry and not returned yet. -/
def late : Int := 1000000000
theorem late_is : late = 1000000000 := rfl
/-- .. and is over. -/
def fixO (now : Int) (o : OpR) : OpR := if o.b = late then { o with b := now } else o
theorem fixO_appO (cap now : Int) (o : OpR) (l : List Int) : appO cap (fixO now o) l = appO cap o l := by
  unfold fixO
  split <;> rfl
theorem fixO_runL (cap now : Int) (A : List OpR) (l : List Int) : runL cap (A.map (fixO now)) l = runL cap A l := by
  induction A generalizing l with
  | nil => rfl
  | cons o A ih =>
    show (appO cap (fixO now o) l).bind (runL cap (A.map (fixO now))) = (appO cap o l).bind (runL cap A)
    rw [fixO_appO]
    cases appO cap o l with
    | none => rfl
    | some l' => exact ih l'
theorem fixO_k (now : Int) (o : OpR) : (fixO now o).k = o.k ∧ (fixO now o).m = o.m ∧ (fixO now o).a = o.a ∧ (fixO now o).c = o.c ∧ (fixO now o).v = o.v := by
  unfold fixO
  split <;> exact ⟨rfl, rfl, rfl, rfl, rfl⟩
theorem fixO_b (now : Int) (o : OpR) : ((fixO now o).b = now ∧ o.b = late) ∨ ((fixO now o).b = o.b ∧ o.b ≠ late) := by
  unfold fixO
  by_cases h : o.b = late
  · rw [if_pos h]; exact .inl ⟨rfl, h⟩
  · rw [if_neg h]; exact .inr ⟨rfl, h⟩
theorem fixO_same {now : Int} {A : List OpR} (h : ∀ o, o ∈ A → o.b ≠ late) : A.map (fixO now) = A := by
  conv => rhs; rw [← List.map_id A]
  refine List.map_congr_left fun o ho => ?_
  unfold fixO
  rw [if_neg (h o ho)]
  rfl

/-- A machine, when it began, what it pushes. -/
structure AcT where
  m : Mach
  sn : Int
  vl : Int
abbrev AcT.no : AcT := ⟨.no, 0, 0⟩
/-- The record of a pop that has taken the word x. -/
def cRec (sn x : Int) : OpR := ⟨1, 0, sn, late, 1, wrap64 x⟩
/-- The machines at the time now. -/
structure HM (n t0 now : Nat) (s : St) (T : Nat) (L : List Int) (cl : Option Int) (A : List AcT) : Prop where
  cs : CL s n t0 T L
  ow : OW s n T L cl (A.getD 0 .no).m.own
  o0 : ∀ f, (A.getD 0 .no).m ≠ .steal f
  th : ∀ a, 0 < a → (A.getD a .no).m = .no ∨ ∃ f, (A.getD a .no).m = .steal f ∧ TH n t0 T L f
  sn : ∀ a, (A.getD a .no).m ≠ .no → 0 ≤ (A.getD a .no).sn ∧ (A.getD a .no).sn ≤ now
  sl : ∀ a f, 0 < a → (A.getD a .no).m = .steal f → f.ln ≠ 1 → (A.getD a .no).sn < now
  fa : ∀ f, (A.getD 0 .no).m = .push f → f.fa = (A.getD 0 .no).vl ∧ wrap64 f.fa = f.fa
  li : T + L.length ≤ t0 + now
  nw : now ≤ 200000
/-- The order of what was done: O1, and O2 that has no effect once the last entry is gone. -/
structure GV (n now : Nat) (L : List Int) (O1 O2 : List OpR) : Prop where
  va : runL n O1 [] = some (L.map wrap64)
  o2 : ∀ o, o ∈ O2 → Idle o
  e2 : O2 ≠ [] → L.length = 1
  rt : (O1 ++ O2).Pairwise RT
  fr : ∀ o, o ∈ O1 ++ O2 → 0 ≤ o.m ∧ 0 ≤ o.a ∧ o.a < now ∧ o.a ≤ o.b
  fm : ∀ o, o ∈ O1 ++ O2 → (o.k = 0 ∧ (o.c = 0 ∨ o.c = 3)) ∨ (o.k = 1 ∧ (o.c = 1 ∨ o.c = 2)) ∨ (o.k = 2 ∧ (o.c = 1 ∨ o.c = 2 ∨ o.c = 4))
/-- What was done and, perhaps, the pop that has taken its entry. -/
def allO (cl : Option Int) (c0 : Int) (out : List OpR) : List OpR :=
  match cl with
  | none => out
  | some x => cRec c0 x :: out
/-- Another operation that took an entry overlaps this one. -/
def Rival (O : List OpR) (o : OpR) : Prop := ∃ o', o' ∈ O ∧ o'.c = 1 ∧ o'.k ≠ 0 ∧ o.a < o'.b ∧ o'.a < o.b
/-- The order beside what is done. -/
structure GO (now : Nat) (cl : Option Int) (c0 : Int) (out O : List OpR) : Prop where
  bd : ∀ o, o ∈ out → o.b < now
  pm : O.Perm (allO cl c0 out)
  ad : ∀ o, o ∈ out → o.c = 4 → o.k = 2 ∧ Rival O o
/-- What ties the order to the machines. -/
structure HL (s : St) (T : Nat) (L : List Int) (A : List AcT) (O1 O2 : List OpR) : Prop where
  dm : O2 ≠ [] → L.length = 1 ∧ s.old 1 = T ∧ ∃ f, (A.getD 0 .no).m = .pop f ∧ (f.ln = 4 ∨ f.ln = 6)
  ot : ∀ o, o ∈ O2 → (A.getD 0 .no).sn ≤ o.b ∧ ∀ a f, 0 < a → (A.getD a .no).m = .steal f → f.ln = 3 ∨ f.ln = 4 → f.fv = T → (A.getD a .no).sn ≤ o.b
  ab : ∀ a f, 0 < a → (A.getD a .no).m = .steal f → f.ln ≠ 1 → f.fv ≠ T → ∃ o, o ∈ O1 ++ O2 ∧ o.c = 1 ∧ o.k ≠ 0 ∧ (A.getD a .no).sn < o.b
/-- All of it. -/
structure HI (n t0 now : Nat) (s : St) (T : Nat) (L : List Int) (cl : Option Int) (A : List AcT) (out O1 O2 : List OpR) : Prop where
  hm : HM n t0 now s T L cl A
  gv : GV n now L O1 O2
  go : GO now cl (A.getD 0 .no).sn out (O1 ++ O2)
  hl : HL s T L A O1 O2

section
variable {n now : Nat} {L L' : List Int} {O1 O2 out : List OpR} {cl : Option Int} {c0 : Int}
theorem GV.next (h : GV n now L O1 O2) : GV n (now + 1) L O1 O2 :=
  ⟨h.va, h.o2, h.e2, h.rt, fun o ho => by have := h.fr o ho; omega, h.fm⟩
/-- An operation takes effect. -/
theorem GV.ins (h : GV n now L O1 O2) (o : OpR) (ha : appO n o (L.map wrap64) = some (L'.map wrap64)) (h2 : O2 ≠ [] → L' = []) (hrt : ∀ x, x ∈ O2 → o.a ≤ x.b) (hfr : 0 ≤ o.m ∧ 0 ≤ o.a ∧ o.a ≤ now ∧ now ≤ o.b)
    (hfm : (o.k = 0 ∧ (o.c = 0 ∨ o.c = 3)) ∨ (o.k = 1 ∧ (o.c = 1 ∨ o.c = 2)) ∨ (o.k = 2 ∧ (o.c = 1 ∨ o.c = 2 ∨ o.c = 4))) : GV n (now + 1) L' (O1 ++ o :: O2) [] := by
  have hp : (O1 ++ o :: O2).Perm (o :: (O1 ++ O2)) := List.perm_middle
  refine ⟨?_, fun x hx => by simp at hx, fun e => absurd rfl e, ?_, fun x hx => ?_, fun x hx => ?_⟩
  · rw [show O1 ++ o :: O2 = (O1 ++ [o]) ++ O2 by simp, runL_append, runL_snoc h.va ha]
    by_cases e : O2 = []
    · subst e; rfl
    · rw [h2 e]
      exact runL_idle h.o2
  · rw [List.append_nil]
    have hr := List.pairwise_append.1 h.rt
    rw [List.pairwise_append]
    refine ⟨hr.1, List.pairwise_cons.2 ⟨hrt, hr.2.1⟩, fun x hx y hy => ?_⟩
    rcases List.mem_cons.1 hy with rfl | hy
    · have := h.fr x (List.mem_append_left _ hx)
      show x.a ≤ y.b
      omega
    · exact hr.2.2 x hx y hy
  · rw [List.append_nil] at hx
    rcases List.mem_cons.1 (hp.subset hx) with rfl | hx
    · omega
    · have := h.fr x hx
      omega
  · rw [List.append_nil] at hx
    rcases List.mem_cons.1 (hp.subset hx) with rfl | hx
    · exact hfm
    · exact h.fm x hx
/-- .. has none, beside the last entry. -/
theorem GV.idle (h : GV n now L O1 O2) (o : OpR) (hl : L.length = 1) (ho : Idle o) (hfr : 0 ≤ o.m ∧ 0 ≤ o.a ∧ o.a ≤ now ∧ now ≤ o.b) : GV n (now + 1) L O1 (O2 ++ [o]) := by
  refine ⟨h.va, fun x hx => ?_, fun _ => hl, ?_, fun x hx => ?_, fun x hx => ?_⟩
  · rcases List.mem_append.1 hx with hx | hx
    · exact h.o2 x hx
    · rw [List.mem_singleton.1 hx]; exact ho
  · rw [← List.append_assoc, List.pairwise_append]
    refine ⟨h.rt, List.pairwise_singleton _ _, fun x hx y hy => ?_⟩
    rw [List.mem_singleton.1 hy]
    have := h.fr x hx
    show x.a ≤ o.b
    omega
  · rw [← List.append_assoc] at hx
    rcases List.mem_append.1 hx with hx | hx
    · have := h.fr x hx
      omega
    · rw [List.mem_singleton.1 hx]
      omega
  · rw [← List.append_assoc] at hx
    rcases List.mem_append.1 hx with hx | hx
    · exact h.fm x hx
    · rw [List.mem_singleton.1 hx]
      exact .inr (.inr ⟨ho.1, ho.2.elim (fun e => .inr (.inl e)) (fun e => .inr (.inr e))⟩)
/-- A pop that has taken its entry returns. -/
theorem GV.fix (h : GV n now L O1 []) : GV n (now + 1) L (O1.map (fixO now)) [] := by
  have h' : ∀ o, o ∈ O1 → _ := fun o ho => h.fr o (List.mem_append_left _ ho)
  have hr := h.rt
  rw [List.append_nil] at hr
  refine ⟨by rw [fixO_runL]; exact h.va, fun x hx => by simp at hx, fun e => absurd rfl e, ?_, fun x hx => ?_, fun x hx => ?_⟩
  · rw [List.append_nil, List.pairwise_map]
    refine hr.imp_of_mem fun {x y} hx hy hxy => ?_
    have k1 := (fixO_k now x).2.2.1
    have k2 := h' x hx
    unfold RT at *
    rcases fixO_b now y with ⟨e, _⟩ | ⟨e, _⟩
    · omega
    · omega
  · rw [List.append_nil, List.mem_map] at hx
    obtain ⟨y, hy, rfl⟩ := hx
    obtain ⟨k1, k2, k3, k4, k5⟩ := fixO_k now y
    have k6 := h' y hy
    rcases fixO_b now y with ⟨e, _⟩ | ⟨e, _⟩
    · omega
    · omega
  · rw [List.append_nil, List.mem_map] at hx
    obtain ⟨y, hy, rfl⟩ := hx
    obtain ⟨k1, k2, k3, k4, k5⟩ := fixO_k now y
    rw [k1, k4]
    exact h.fm y (List.mem_append_left _ hy)
theorem Rival.mono {O O' : List OpR} {o : OpR} (h : Rival O o) (hs : ∀ x, x ∈ O → x ∈ O') : Rival O' o := by
  obtain ⟨x, hx, r⟩ := h
  exact ⟨x, hs x hx, r⟩
theorem GO.next {O : List OpR} (h : GO now cl c0 out O) : GO (now + 1) cl c0 out O :=
  ⟨fun o ho => by have := h.bd o ho; omega, h.pm, h.ad⟩
theorem GO.done {O O' : List OpR} (h : GO now cl c0 out O) (o : OpR) (hp : O'.Perm (o :: O)) (hb : o.b = now) (ha : o.c = 4 → o.k = 2 ∧ Rival O' o) : GO (now + 1) cl c0 (out ++ [o]) O' := by
  have hs : ∀ x, x ∈ O → x ∈ O' := fun x hx => hp.symm.subset (List.mem_cons_of_mem _ hx)
  refine ⟨fun x hx => ?_, ?_, fun x hx hc => ?_⟩
  · rcases List.mem_append.1 hx with hx | hx
    · have := h.bd x hx
      omega
    · rw [List.mem_singleton.1 hx]
      omega
  · refine hp.trans ((h.pm.cons o).trans ?_)
    have e : (o :: out).Perm (out ++ [o]) := (List.perm_append_singleton o out).symm
    cases cl with
    | none => exact e
    | some x => exact (List.Perm.swap _ _ _).trans (e.cons _)
  · rcases List.mem_append.1 hx with hx | hx
    · exact ⟨(h.ad x hx hc).1, (h.ad x hx hc).2.mono hs⟩
    · rw [List.mem_singleton.1 hx] at hc ⊢
      exact ha hc
theorem GO.claim {O O' : List OpR} {x : Int} (h : GO now none c0 out O) (hp : O'.Perm (cRec c0 x :: O)) : GO (now + 1) (some x) c0 out O' :=
  ⟨fun o ho => by have := h.bd o ho; omega, hp.trans (h.pm.cons _), fun o ho hc => ⟨(h.ad o ho hc).1, (h.ad o ho hc).2.mono fun y hy => hp.symm.subset (List.mem_cons_of_mem _ hy)⟩⟩
theorem GO.ret {O : List OpR} {x : Int} (h : GO now (some x) c0 out O) (hn : (now : Int) < late) (hO : ∀ o, o ∈ O → o.a ≤ now ∧ o.a ≤ o.b) : GO (now + 1) none c0 (out ++ [fixO now (cRec c0 x)]) (O.map (fixO now)) := by
  have hout : out.map (fixO now) = out := fixO_same fun o ho => by have := h.bd o ho; omega
  have hb : (fixO now (cRec c0 x)).b = now := by
    unfold fixO
    rw [if_pos (show (cRec c0 x).b = late from rfl)]
  refine ⟨fun o ho => ?_, ?_, fun o ho hc => ?_⟩
  · rcases List.mem_append.1 ho with ho | ho
    · have := h.bd o ho
      omega
    · rw [List.mem_singleton.1 ho]
      omega
  · have := (h.pm.map (fixO now))
    refine this.trans ?_
    show (fixO now (cRec c0 x) :: out.map (fixO now)).Perm (out ++ [fixO now (cRec c0 x)])
    rw [hout]
    exact (List.perm_append_singleton _ out).symm
  · rcases List.mem_append.1 ho with ho | ho
    · obtain ⟨hk, y, hy, y1, y2, y3, y4⟩ := h.ad o ho hc
      refine ⟨hk, fixO now y, List.mem_map_of_mem hy, ?_, ?_, ?_, ?_⟩
      · rw [(fixO_k now y).2.2.2.1]; exact y1
      · rw [(fixO_k now y).1]; exact y2
      · have hbo := h.bd o ho
        have hoO : o ∈ O := h.pm.symm.subset (List.mem_cons_of_mem _ ho)
        have := hO o hoO
        rcases fixO_b now y with ⟨e, _⟩ | ⟨e, _⟩
        · omega
        · omega
      · rw [(fixO_k now y).2.2.1]; exact y4
    · rw [List.mem_singleton.1 ho, (fixO_k now _).2.2.2.1] at hc
      exact absurd hc (by show (1 : Int) ≠ 4; decide)
end
end Go.Proofs.YtjehiekmlbeaeaaGreat

namespace Go.Proofs.YtjehiekmlbeaeaaGreat
open Go Go.RowKit
set_option linter.unusedSimpArgs false
set_option linter.unusedVariables false

section
variable {n t0 now : Nat} {s : St} {T : Nat} {L : List Int} {cl : Option Int} {A : List AcT} {out O1 O2 : List OpR}
theorem HM.own (h : HM n t0 now s T L cl A) (hm : 0 < A.length) (hn : now < 200000) {s' : St} {T' : Nat} {L' : List Int} {cl' : Option Int} (x : AcT) (cs : CL s' n t0 T' L') (ow : OW s' n T' L' cl' x.m.own) (o0 : ∀ f, x.m ≠ .steal f)
    (th : ∀ g, TH n t0 T L g → TH n t0 T' L' g) (sn : x.m ≠ .no → 0 ≤ x.sn ∧ x.sn ≤ now) (fa : ∀ f, x.m = .push f → f.fa = x.vl ∧ wrap64 f.fa = f.fa) (li : T' + L'.length ≤ t0 + (now + 1)) :
    HM n t0 (now + 1) s' T' L' cl' (A.set 0 x) := by
  have e0 : (A.set 0 x).getD 0 .no = x := set_at _ _ _ _ hm
  have e1 : ∀ a, 0 < a → (A.set 0 x).getD a .no = A.getD a .no := fun a ha => set_off _ _ _ _ _ (by omega)
  refine ⟨cs, by rw [e0]; exact ow, by rw [e0]; exact o0, fun a ha => ?_, fun a => ?_, fun a f ha => ?_, by rw [e0]; exact fa, li, hn⟩
  · rw [e1 a ha]
    rcases h.th a ha with e | ⟨g, e, kg⟩
    · exact .inl e
    · exact .inr ⟨g, e, th g kg⟩
  · rcases Nat.eq_zero_or_pos a with rfl | ha
    · rw [e0]
      intro k
      have := sn k
      omega
    · rw [e1 a ha]
      intro k
      have := h.sn a k
      omega
  · rw [e1 a ha]
    intro k1 k2
    have := h.sl a f ha k1 k2
    omega
theorem HM.thief (h : HM n t0 now s T L cl A) {a : Nat} (ha : 0 < a) (hm : a < A.length) (hn : now < 200000) {s' : St} {T' : Nat} {L' : List Int} (x : AcT) (cs : CL s' n t0 T' L') (ow : OW s' n T' L' cl (A.getD 0 .no).m.own)
    (th : ∀ g, TH n t0 T L g → TH n t0 T' L' g) (tx : x.m = .no ∨ ∃ g, x.m = .steal g ∧ TH n t0 T' L' g) (sn : x.m ≠ .no → 0 ≤ x.sn ∧ x.sn ≤ now) (li : T' + L'.length ≤ T + L.length) :
    HM n t0 (now + 1) s' T' L' cl (A.set a x) := by
  have e0 : (A.set a x).getD a .no = x := set_at _ _ _ _ hm
  have e1 : ∀ b, a ≠ b → (A.set a x).getD b .no = A.getD b .no := fun b hb => set_off _ _ _ _ _ hb
  have e2 : (A.set a x).getD 0 .no = A.getD 0 .no := e1 0 (by omega)
  have hl := h.li
  refine ⟨cs, by rw [e2]; exact ow, by rw [e2]; exact h.o0, fun b hb => ?_, fun b => ?_, fun b f hb => ?_, by rw [e2]; exact h.fa, by omega, hn⟩
  · by_cases hab : a = b
    · subst hab
      rw [e0]
      exact tx
    · rw [e1 b hab]
      rcases h.th b hb with e | ⟨g, e, kg⟩
      · exact .inl e
      · exact .inr ⟨g, e, th g kg⟩
  · by_cases hab : a = b
    · subst hab
      rw [e0]
      intro k
      have := sn k
      omega
    · rw [e1 b hab]
      intro k
      have := h.sn b k
      omega
  · by_cases hab : a = b
    · subst hab
      rw [e0]
      intro k1 k2
      have := sn (by rw [k1]; exact fun e => by cases e)
      omega
    · rw [e1 b hab]
      intro k1 k2
      have := h.sl b f hb k1 k2
      omega
/-- Nothing happens. -/
theorem HI.next (h : HI n t0 now s T L cl A out O1 O2) (hn : now < 200000) : HI n t0 (now + 1) s T L cl A out O1 O2 := by
  have hl := h.hm.li
  exact ⟨⟨h.hm.cs, h.hm.ow, h.hm.o0, h.hm.th, fun a k => by have := h.hm.sn a k; omega, fun a f k1 k2 k3 => by have := h.hm.sl a f k1 k2 k3; omega, h.hm.fa, by omega, hn⟩, h.gv.next, h.go.next, h.hl⟩
theorem HI.nopop (h : HI n t0 now s T L cl A out O1 O2) (hp : ∀ f, (A.getD 0 .no).m ≠ .pop f) : O2 = [] := by
  by_cases e : O2 = []
  · exact e
  · obtain ⟨_, _, f, k, _⟩ := h.hl.dm e
    exact absurd k (hp f)
/-- The owner begins. -/
theorem HI.begin0 (h : HI n t0 now s T L cl A out O1 O2) (hm : 0 < A.length) (h0 : (A.getD 0 .no).m = .no) (x : AcT) (hx : x.sn = now) (ow : OW s n T L cl x.m.own) (o0 : ∀ f, x.m ≠ .steal f) (fa : ∀ f, x.m = .push f → f.fa = x.vl ∧ wrap64 f.fa = f.fa) :
    HI n t0 now s T L cl (A.set 0 x) out O1 O2 := by
  have e0 : (A.set 0 x).getD 0 .no = x := set_at _ _ _ _ hm
  have e1 : ∀ a, 0 < a → (A.set 0 x).getD a .no = A.getD a .no := fun a ha => set_off _ _ _ _ _ (by omega)
  obtain rfl : O2 = [] := h.nopop fun f e => by rw [h0] at e; cases e
  have hcl : cl = none := by
    have := h.hm.ow
    rw [h0] at this
    exact this.2
  subst hcl
  refine ⟨⟨h.hm.cs, by rw [e0]; exact ow, by rw [e0]; exact o0, fun a ha => by rw [e1 a ha]; exact h.hm.th a ha, fun a => ?_, fun a f ha => by rw [e1 a ha]; exact h.hm.sl a f ha, by rw [e0]; exact fa, h.hm.li, h.hm.nw⟩,
    h.gv, ⟨h.go.bd, h.go.pm, h.go.ad⟩, ⟨fun e => absurd rfl e, fun o ho => by simp at ho, fun a f ha => by rw [e1 a ha]; exact h.hl.ab a f ha⟩⟩
  rcases Nat.eq_zero_or_pos a with rfl | ha
  · rw [e0]
    omega
  · rw [e1 a ha]
    exact h.hm.sn a
/-- A thief begins. -/
theorem HI.begin1 (h : HI n t0 now s T L cl A out O1 O2) {a : Nat} (ha : 0 < a) (hm : a < A.length) (h0 : (A.getD a .no).m = .no) (x : AcT) (hx : x.sn = now) (f : Fra) (hf : x.m = .steal f) (hq : f.qt = 0 ∧ f.qb = 1 ∧ f.qr = 2 ∧ f.qc = n) (hl : f.ln = 1) :
    HI n t0 now s T L cl (A.set a x) out O1 O2 := by
  have e0 : (A.set a x).getD a .no = x := set_at _ _ _ _ hm
  have e1 : ∀ b, a ≠ b → (A.set a x).getD b .no = A.getD b .no := fun b hb => set_off _ _ _ _ _ hb
  have e2 : (A.set a x).getD 0 .no = A.getD 0 .no := e1 0 (by omega)
  refine ⟨⟨h.hm.cs, by rw [e2]; exact h.hm.ow, by rw [e2]; exact h.hm.o0, fun b hb => ?_, fun b => ?_, fun b g hb => ?_, by rw [e2]; exact h.hm.fa, h.hm.li, h.hm.nw⟩, h.gv, by rw [e2]; exact h.go, ⟨by rw [e2]; exact h.hl.dm, fun o ho => ?_, fun b g hb => ?_⟩⟩
  · by_cases hab : a = b
    · subst hab
      rw [e0]
      exact .inr ⟨f, hf, hq.1, hq.2.1, hq.2.2.1, hq.2.2.2, .inl hl⟩
    · rw [e1 b hab]
      exact h.hm.th b hb
  · by_cases hab : a = b
    · subst hab
      rw [e0]
      omega
    · rw [e1 b hab]
      exact h.hm.sn b
  · by_cases hab : a = b
    · subst hab
      rw [e0, hf]
      rintro ⟨⟩ k
      exact absurd hl k
    · rw [e1 b hab]
      exact h.hm.sl b g hb
  · rw [e2]
    refine ⟨(h.hl.ot o ho).1, fun b g hb => ?_⟩
    by_cases hab : a = b
    · subst hab
      rw [e0, hf]
      rintro ⟨⟩ k
      omega
    · rw [e1 b hab]
      exact (h.hl.ot o ho).2 b g hb
  · by_cases hab : a = b
    · subst hab
      rw [e0, hf]
      rintro ⟨⟩ k
      exact absurd hl k
    · rw [e1 b hab]
      exact h.hl.ab b g hb

/-- A step of the owner's push. -/
theorem HI.push (h : HI n t0 now s T L cl A out O1 O2) (hm : 0 < A.length) (hn : now < 200000) {f : Fra} (h0 : (A.getD 0 .no).m = .push f) (hv : -9223372036854775808 ≤ (A.getD 0 .no).vl ∧ (A.getD 0 .no).vl ≤ 9223372036854775807) :
    ((pushS s f).2.2.dn = false → HI n t0 (now + 1) (pushS s f).1 T L cl (A.set 0 ⟨.push (pushS s f).2.1, (A.getD 0 .no).sn, (A.getD 0 .no).vl⟩) out O1 O2) ∧
    ((pushS s f).2.2.dn = true → ∃ L' O1', HI n t0 (now + 1) (pushS s f).1 T L' cl (A.set 0 ⟨.no, (A.getD 0 .no).sn, (A.getD 0 .no).vl⟩) (out ++ [⟨0, 0, (A.getD 0 .no).sn, now, (pushS s f).2.2.cd, (A.getD 0 .no).vl⟩]) O1' []) := by
  have ho := h.hm.ow
  have hli := h.hm.li
  rw [h0] at ho
  obtain ⟨hw, hcl⟩ := ho
  obtain ⟨fv, fw⟩ := h.hm.fa f h0
  have hsn := h.hm.sn 0 (by rw [h0]; exact fun e => by cases e)
  obtain rfl : O2 = [] := h.nopop fun f e => by rw [h0] at e; cases e
  obtain ⟨L', k1, k2, k3, k4⟩ := push_step h.hm.cs hw (by omega)
  have hfull := push_full h.hm.cs hw
  have e1 : ∀ x a, 0 < a → (A.set 0 x).getD a .no = A.getD a .no := fun x a ha => set_off _ _ _ _ _ (by omega)
  have e0 : ∀ x, (A.set 0 x).getD 0 .no = x := fun x => set_at _ _ _ _ hm
  refine ⟨fun hd => ?_, fun hd => ?_⟩
  · obtain ⟨p1, rfl⟩ := k3 hd
    refine ⟨h.hm.own hm hn _ k1 ⟨p1, hcl⟩ (fun g e => by cases e) k2 (fun _ => hsn) (fun g e => ?_) (by omega), h.gv.next, ?_, ⟨fun e => absurd rfl e, fun o ho => by simp at ho, fun a g ha => ?_⟩⟩
    · injection e with e
      subst e
      rw [(push_keeps.q s f).1]
      exact ⟨fv, fw⟩
    · rw [e0]
      exact h.go.next
    · rw [e1 _ a ha]
      exact h.hl.ab a g ha
  · obtain ⟨p1, p2⟩ := k4 hd
    have hall : ∀ M, appO n ⟨0, 0, (A.getD 0 .no).sn, now, (pushS s f).2.2.cd, (A.getD 0 .no).vl⟩ (L.map wrap64) = some (M.map wrap64) → CL (pushS s f).1 n t0 T M → (∀ g, TH n t0 T L g → TH n t0 T M g) →
        (pushS s f).1.old 1 = ((T + M.length : Nat) : Int) → M.length ≤ L.length + 1 → (pushS s f).2.2.cd = 0 ∨ (pushS s f).2.2.cd = 3 → ∃ L' O1', HI n t0 (now + 1) (pushS s f).1 T L' cl (A.set 0 ⟨.no, (A.getD 0 .no).sn, (A.getD 0 .no).vl⟩) (out ++ [⟨0, 0, (A.getD 0 .no).sn, now, (pushS s f).2.2.cd, (A.getD 0 .no).vl⟩]) O1' [] := by
      intro M ha hc ht hb hl hcd
      refine ⟨M, _, h.hm.own hm hn ⟨.no, (A.getD 0 .no).sn, (A.getD 0 .no).vl⟩ hc ⟨hb, hcl⟩ (fun g e => by cases e) ht (fun _ => hsn) (fun g e => by cases e) (by omega),
        h.gv.ins ⟨0, 0, (A.getD 0 .no).sn, now, (pushS s f).2.2.cd, (A.getD 0 .no).vl⟩ ha (fun e => absurd rfl e) (fun x hx => by simp at hx) ⟨Int.le_refl _, hsn.1, hsn.2, Int.le_refl _⟩ (.inl ⟨rfl, hcd⟩), ?_, ⟨fun e => absurd rfl e, fun o ho => by simp at ho, fun a g ha => ?_⟩⟩
      · rw [e0]
        refine h.go.done _ ?_ rfl (fun e => ?_)
        · rw [List.append_nil]
          exact List.perm_middle
        · replace e : (pushS s f).2.2.cd = 4 := e
          omega
      · rw [e1 _ a ha]
        intro g1 g2 g3
        obtain ⟨o, ho, r⟩ := h.hl.ab a g ha g1 g2 g3
        refine ⟨o, ?_, r⟩
        rw [List.append_nil]
        exact (List.perm_middle (l₁ := O1) (l₂ := [])).symm.subset (List.mem_cons_of_mem _ ho)
    rcases p2 with ⟨c0, rfl⟩ | ⟨c0, c1, rfl⟩
    · refine hall _ ?_ k1 k2 p1 (by simp) (.inl c0)
      have hcap := k1.cap
      rw [List.length_append] at hcap
      rw [appO_fine c0 (by rw [List.length_map]; simp at hcap; omega), List.map_append]
      show some (L.map wrap64 ++ [(A.getD 0 .no).vl]) = some (L.map wrap64 ++ [wrap64 (IntKind.u64.wrap f.fa)])
      rw [wrapWU, fw, fv]
    · obtain ⟨c3, hc⟩ := hfull hd c0
      refine hall _ ?_ k1 k2 p1 (by omega) (.inr c3)
      exact appO_full c3 (by rw [List.length_map]; omega)
end
end Go.Proofs.YtjehiekmlbeaeaaGreat
