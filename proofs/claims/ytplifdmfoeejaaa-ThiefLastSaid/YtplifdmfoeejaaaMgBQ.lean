/-
  A pop and a steal that meet at the last entry: their machines beside what the law carries along, and a step of each.
  The keep's Number of one number.
-/
import Derived.Test.YtplifdmfoeejaaaTaw
import Derived.Test.YtplifdmfoeejaaaMgAY
import Derived.Test.YtplifdmfoeejaaaMgAK
import Derived.Test.YtplifdmfoeejaaaMgAA
namespace Go.Proofs.Ytplifdmfoeejaaa
open Go Go.RowKit Go.Shelf
set_option linter.unusedSimpArgs false
set_option linter.unusedVariables false

/-- Where the pop's machine stands: on its way, or done with a result. -/
def PX (w : World) (x : Nat) (X : Mach) (a : Option Res) : Prop :=
  (∃ f, X = .pop f ∧ a = none ∧ PopOk f ∧ OB w x 91 [] f 0 0) ∨ (X = .no ∧ ∃ (r : Res) (f : Fra), a = some r ∧ OB w x 91 [] { f with ln := 0 } r.cd r.vl)
/-- .. and the steal's. -/
def SX (w : World) (y : Nat) (Y : Mach) (b : Option Res) : Prop :=
  (∃ f, Y = .steal f ∧ b = none ∧ StealOk f ∧ OB w y 100 [.int .u64 f.fw] f 0 0) ∨ (Y = .no ∧ ∃ (r : Res) (f : Fra) (u : Int), b = some r ∧ OB w y 100 [.int .u64 u] { f with ln := 0 } r.cd r.vl)
/-- All of it. -/
structure LW (w0 : World) (p m k g cap qb t0 : Nat) (e : Int) (x y : Nat) (s : St) (X Y : Mach) (a b : Option Res) (w : World) : Prop where
  aw : AW w0 p m k g cap hd0 nilV nilV 0 0 qb 3 s w
  px : PX w x X a
  sx : SX w y Y b
  me : Meet s t0 e X Y a b
  xy : x ≠ y
  lo : w0.heap.size ≤ x ∧ w0.heap.size ≤ y
section
variable {w0 w w' : World} {p m k g cap qb t0 : Nat} {e : Int} {x y : Nat} {s : St} {X Y : Mach} {a b : Option Res}
theorem PX.keep {S : List Nat} (h : PX w x X a) (hf : Fr S w w') (hx : ∀ (ty : TypeId) (post : List Value) (f : Fra) (cd vl : Int), OB w x ty post f cd vl → x ∉ S) : PX w' x X a := by
  rcases h with ⟨f, e1, e2, e3, h⟩ | ⟨e1, r, f, e2, h⟩
  · exact .inl ⟨f, e1, e2, e3, h.fr hf (hx _ _ _ _ _ h)⟩
  · exact .inr ⟨e1, r, f, e2, h.fr hf (hx _ _ _ _ _ h)⟩
theorem SX.keep {S : List Nat} (h : SX w y Y b) (hf : Fr S w w') (hx : ∀ (ty : TypeId) (post : List Value) (f : Fra) (cd vl : Int), OB w y ty post f cd vl → y ∉ S) : SX w' y Y b := by
  rcases h with ⟨f, e1, e2, e3, h⟩ | ⟨e1, r, f, u, e2, h⟩
  · exact .inl ⟨f, e1, e2, e3, h.fr hf (hx _ _ _ _ _ h)⟩
  · exact .inr ⟨e1, r, f, u, e2, h.fr hf (hx _ _ _ _ _ h)⟩
theorem PX.below (h : PX w x X a) (hb : Below w.heap.size w w') : PX w' x X a := by
  rcases h with ⟨f, e1, e2, e3, h⟩ | ⟨e1, r, f, e2, h⟩
  · exact .inl ⟨f, e1, e2, e3, h.below hb⟩
  · exact .inr ⟨e1, r, f, e2, h.below hb⟩
theorem SX.below (h : SX w y Y b) (hb : Below w.heap.size w w') : SX w' y Y b := by
  rcases h with ⟨f, e1, e2, e3, h⟩ | ⟨e1, r, f, u, e2, h⟩
  · exact .inl ⟨f, e1, e2, e3, h.below hb⟩
  · exact .inr ⟨e1, r, f, u, e2, h.below hb⟩
theorem LW.below (h : LW w0 p m k g cap qb t0 e x y s X Y a b w) (hb : Below w.heap.size w w') : LW w0 p m k g cap qb t0 e x y s X Y a b w' :=
  ⟨h.aw.below hb, h.px.below hb, h.sx.below hb, h.me, h.xy, h.lo⟩

/-- What a step of the pop gives. -/
def LPopped (w0 : World) (p m k g cap qb t0 : Nat) (e : Int) (x y : Nat) (X Y : Mach) (b : Option Res) (en : Ending) (w' : World) : Prop :=
  ∃ d s' X' a', en = .returned (.bool d) ∧ LW w0 p m k g cap qb t0 e x y s' X' Y a' b w' ∧ (X' = .no ∨ X.line + 1 ≤ X'.line)
theorem LW.pop (h : LW w0 p m k g cap qb t0 e x y s X Y a b w) :
    Calls Try.prog 82 #[.pointer (some ⟨x, 0, none⟩), .pointer (some ⟨p, 0, none⟩)] w (LPopped w0 p m k g cap qb t0 e x y X Y b) := by
  rcases h.px with ⟨f, rfl, rfl, ok, ho⟩ | ⟨rfl, r, f, rfl, ho⟩
  · refine (popper_any h.aw.e ho ok.1 ok.2.2.2).mono ?_
    rintro en w' ⟨rfl, hp, hb, hf⟩
    have ha := h.aw.done ho (by decide) h.lo.1 hp hf (pop_keeps.n s f h.aw.n ok)
    have hs : SX w' y Y b := h.sx.keep hf (fun ty post f cd vl hy => by
      obtain ⟨n1, n2, n3, n4⟩ := hy.ne h.aw.e
      simp [n2, n4, h.xy.symm])
    obtain ⟨m1, m2⟩ := h.me.pop
    cases hd : (popS s f).2.2.dn with
    | false =>
      obtain ⟨z1, z2⟩ := pop_keeps.z s f hd
      have ok' := pop_keeps.o s f h.aw.n ok hd
      rw [hd, z1, z2] at hb
      refine ⟨_, _, _, _, rfl, ⟨ha, .inl ⟨_, rfl, rfl, ok', hb⟩, hs, m1 hd, h.xy, h.lo⟩, .inr ?_⟩
      exact pop_line (by have := ok.1; omega) hd
    | true =>
      rw [hd] at hb
      exact ⟨_, _, _, _, rfl, ⟨ha, .inr ⟨rfl, _, _, rfl, hb⟩, hs, m2 hd, h.xy, h.lo⟩, .inl rfl⟩
  · refine (popper_over ho _).mono ?_
    rintro en w' ⟨rfl, rfl⟩
    exact ⟨_, _, _, _, rfl, h, .inl rfl⟩
/-- .. of the steal. -/
def LStolen (w0 : World) (p m k g cap qb t0 : Nat) (e : Int) (x y : Nat) (X Y : Mach) (a : Option Res) (en : Ending) (w' : World) : Prop :=
  ∃ d s' Y' b', en = .returned (.bool d) ∧ LW w0 p m k g cap qb t0 e x y s' X Y' a b' w' ∧ (Y' = .no ∨ Y.line + 1 ≤ Y'.line)
theorem LW.steal (h : LW w0 p m k g cap qb t0 e x y s X Y a b w) :
    Calls Try.prog 87 #[.pointer (some ⟨y, 0, none⟩), .pointer (some ⟨p, 0, none⟩)] w (LStolen w0 p m k g cap qb t0 e x y X Y a) := by
  rcases h.sx with ⟨f, rfl, rfl, ok, ho⟩ | ⟨rfl, r, f, u, rfl, ho⟩
  · refine (stealer_any h.aw.e ho ok.1 ok.2.2.1 ok.2.2.2).mono ?_
    rintro en w' ⟨rfl, hp, hb, hf⟩
    have ha := h.aw.done ho (by decide) h.lo.2 hp hf (steal_keeps.n s f h.aw.n ok)
    have hs : PX w' x X a := h.px.keep hf (fun ty post f cd vl hy => by
      obtain ⟨n1, n2, n3, n4⟩ := hy.ne h.aw.e
      simp [n2, n4, h.xy])
    obtain ⟨m1, m2⟩ := h.me.steal
    cases hd : (stealS s f).2.2.dn with
    | false =>
      obtain ⟨z1, z2⟩ := steal_keeps.z s f hd
      have ok' := steal_keeps.o s f h.aw.n ok hd
      rw [hd, z1, z2] at hb
      refine ⟨_, _, _, _, rfl, ⟨ha, hs, .inl ⟨_, rfl, rfl, ok', hb⟩, m1 hd, h.xy, h.lo⟩, .inr ?_⟩
      exact steal_line (by have := ok.1; omega) hd
    | true =>
      rw [hd] at hb
      exact ⟨_, _, _, _, rfl, ⟨ha, hs, .inr ⟨rfl, _, _, _, rfl, hb⟩, m2 hd, h.xy, h.lo⟩, .inl rfl⟩
  · refine (stealer_over ho _).mono ?_
    rintro en w' ⟨rfl, rfl⟩
    exact ⟨_, _, _, _, rfl, h, .inl rfl⟩
theorem PX.line (h : PX w x X a) : X = .no ∨ (1 ≤ X.line ∧ X.line ≤ 9) := by
  rcases h with ⟨f, rfl, _, ok, _⟩ | ⟨rfl, _⟩
  · have := ok.1
    exact .inr (by show 1 ≤ f.ln ∧ f.ln ≤ 9; omega)
  · exact .inl rfl
theorem SX.line (h : SX w y Y b) : Y = .no ∨ (1 ≤ Y.line ∧ Y.line ≤ 9) := by
  rcases h with ⟨f, rfl, _, ok, _⟩ | ⟨rfl, _⟩
  · have := ok.1
    exact .inr (by show 1 ≤ f.ln ∧ f.ln ≤ 9; omega)
  · exact .inl rfl
end
end Go.Proofs.Ytplifdmfoeejaaa

namespace Go.Proofs.Ytplifdmfoeejaaa
open Go Go.RowKit

theorem ints_lone (w : World) (z : Int) : InInts (w.alloc (.cells #[.int .i64 z] 3)) (some ⟨w.heap.size, 0, none⟩) 1 [z] := by
  have hB := Blk.made w 3 #[.int .i64 z]
  refine ⟨rfl, by unfold maxLen; omega, fun i hi => ⟨_, rfl, hB.lt, ?_⟩⟩
  obtain rfl : i = 0 := by omega
  have e : (⟨w.heap.size, 0, none⟩ : Addr).add 0 = ⟨w.heap.size, 0, none⟩ := by unfold Addr.add; rfl
  rw [e, hB.at_]
  rfl
theorem keepnum0 {w : World} {a : Option Addr} {L : Nat} {zs : List Int} (h : InInts w a L zs) (c : Nat) (n : Int) (hn : 1 ≤ n) (hn' : n ≤ 1000000) :
    Calls Try.prog 24 #[.slice a L c, .int .i64 0, .int .i64 n] w (NumR n w) := keepnum_any h c 0 (by omega) n hn hn'
end Go.Proofs.Ytplifdmfoeejaaa
