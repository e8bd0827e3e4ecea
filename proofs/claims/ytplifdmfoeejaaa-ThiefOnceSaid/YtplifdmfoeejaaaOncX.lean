/-
  One owner and several thieves: their machines beside the lists that the law keeps.
-/
import Derived.Test.YtplifdmfoeejaaaTaw
import Derived.Test.YtplifdmfoeejaaaMgAY
namespace Go.Proofs.Ytplifdmfoeejaaa
open Go Go.RowKit Go.Shelf
set_option linter.unusedSimpArgs false
set_option linter.unusedVariables false

/-- The value of a machine in block q. -/
def mval (q : Nat) : Mach → Value
  | .no => .nilIface
  | .push _ => .iface 81 (.pointer (some ⟨q, 0, none⟩))
  | .pop _ => .iface 89 (.pointer (some ⟨q, 0, none⟩))
  | .steal _ => .iface 98 (.pointer (some ⟨q, 0, none⟩))
/-- Block q holds it. -/
def MO (w : World) (q : Nat) : Mach → Prop
  | .no => True
  | .push f => OB w q 88 [.int .i64 f.fa] f 0 0 ∧ PushOk f
  | .pop f => OB w q 91 [] f 0 0 ∧ PopOk f
  | .steal f => OB w q 100 [.int .u64 f.fw] f 0 0 ∧ StealOk f
theorem mval_live {M : Mach} (q : Nat) (h : M ≠ .no) : ∃ ty, mval q M = .iface ty (.pointer (some ⟨q, 0, none⟩)) := by
  cases M with
  | no => exact absurd rfl h
  | push f => exact ⟨_, rfl⟩
  | pop f => exact ⟨_, rfl⟩
  | steal f => exact ⟨_, rfl⟩
section
variable {w w' : World} {q : Nat} {M : Mach}
theorem MO.line (h : MO w q M) : M = .no ∨ (1 ≤ M.line ∧ M.line ≤ 9) := by
  cases M with
  | no => exact .inl rfl
  | push f => have := h.2.1; exact .inr (by show 1 ≤ f.ln ∧ f.ln ≤ 9; omega)
  | pop f => have := h.2.1; exact .inr (by show 1 ≤ f.ln ∧ f.ln ≤ 9; omega)
  | steal f => have := h.2.1; exact .inr (by show 1 ≤ f.ln ∧ f.ln ≤ 9; omega)
theorem MO.fr {S : List Nat} (h : MO w q M) (hf : Fr S w w') (hq : M ≠ .no → (∃ ty post f, OB w q ty post f 0 0) → q ∉ S) : MO w' q M := by
  cases M with
  | no => trivial
  | push f => exact ⟨h.1.fr hf (hq (by intro e; cases e) ⟨_, _, _, h.1⟩), h.2⟩
  | pop f => exact ⟨h.1.fr hf (hq (by intro e; cases e) ⟨_, _, _, h.1⟩), h.2⟩
  | steal f => exact ⟨h.1.fr hf (hq (by intro e; cases e) ⟨_, _, _, h.1⟩), h.2⟩
theorem MO.ob (h : MO w q M) (hM : M ≠ .no) : ∃ ty post f, OB w q ty post f 0 0 ∧ (ty = 88 ∨ ty = 91 ∨ ty = 100) := by
  cases M with
  | no => exact absurd rfl hM
  | push f => exact ⟨_, _, _, h.1, .inl rfl⟩
  | pop f => exact ⟨_, _, _, h.1, .inr (.inl rfl)⟩
  | steal f => exact ⟨_, _, _, h.1, .inr (.inr rfl)⟩
theorem MO.below (h : MO w q M) (hb : Below w.heap.size w w') : MO w' q M := by
  cases M with
  | no => trivial
  | push f => exact ⟨h.1.below hb, h.2⟩
  | pop f => exact ⟨h.1.below hb, h.2⟩
  | steal f => exact ⟨h.1.below hb, h.2⟩
end
/-- The types of the lists' blocks. -/
abbrev ltys : List TypeId := [37, 3, 4]
/-- The lists: machines, what each does, what was pushed, how often each number was taken. -/
abbrev xcells (K : Nat) (q : Nat → Nat) (M : List Mach) : Array Value := ((List.range K).map fun a => mval (q a) (M.getD a .no)).toArray
/-- All but the list of the machines. -/
structure XW (w0 : World) (p m k g cap qb C : Nat) (bd bp bt K N : Nat) (q : Nat → Nat) (s : St) (M : List Mach) (D : List Int) (P : List Bool) (T : List Int) (w : World) : Prop where
  aw : AW w0 p m k g cap hd0 nilV nilV 0 0 qb C s w
  ds : Blk w bd 3 (D.map (Value.int .i64)).toArray
  ps : Blk w bp 4 (P.map Value.bool).toArray
  ts : Blk w bt 3 (T.map (Value.int .i64)).toArray
  mo : ∀ a, a < K → MO w (q a) (M.getD a .no)
  ap : ∀ a b, a < K → b < K → a ≠ b → M.getD a .no ≠ .no → M.getD b .no ≠ .no → q a ≠ q b
  lo : ∀ a, a < K → M.getD a .no ≠ .no → w0.heap.size ≤ q a
  lb : w0.heap.size ≤ bd ∧ w0.heap.size ≤ bp ∧ w0.heap.size ≤ bt
  dt : bd ≠ bt
  ml : M.length = K
  dl : D.length = K
  pl : P.length = N
  tl : T.length = N
  d0 : ∀ f, M.getD 0 .no = .push f → f.fa = D.getD 0 0 ∧ 0 ≤ D.getD 0 0 ∧ D.getD 0 0 < N
  kk : 1 ≤ K
/-- The list of the machines. -/
def XS (w0 : World) (bx K : Nat) (q : Nat → Nat) (M : List Mach) (w : World) : Prop := Blk w bx 37 (xcells K q M) ∧ w0.heap.size ≤ bx
section
variable {w0 w w' : World} {p m k g cap qb C bd bp bt bx K N : Nat} {q : Nat → Nat} {s s' : St} {M : List Mach} {D : List Int} {P : List Bool} {T : List Int}
theorem XW.below (h : XW w0 p m k g cap qb C bd bp bt K N q s M D P T w) (hb : Below w.heap.size w w') : XW w0 p m k g cap qb C bd bp bt K N q s M D P T w' :=
  ⟨h.aw.below hb, h.ds.below hb, h.ps.below hb, h.ts.below hb, fun a ha => (h.mo a ha).below hb, h.ap, h.lo, h.lb, h.dt, h.ml, h.dl, h.pl, h.tl, h.d0, h.kk⟩
theorem XS.below (h : XS w0 bx K q M w) (hb : Below w.heap.size w w') : XS w0 bx K q M w' := ⟨h.1.below hb, h.2⟩
theorem XS.lt (h : XS w0 bx K q M w) : bx < w.heap.size := h.1.lt
theorem XS.cell (h : XS w0 bx K q M w) {a : Nat} (ha : a < K) : w.cell? ⟨bx, a, none⟩ = some (mval (q a) (M.getD a .no)) := by
  rw [h.1.at_, List.getElem?_toArray, List.getElem?_map, List.getElem?_range ha]
  rfl
theorem XS.free (h : XS w0 bx K q M w) (a : Nat) : w.frozen? ⟨bx, a, none⟩ = false := h.1.free a
theorem XW.dcell (h : XW w0 p m k g cap qb C bd bp bt K N q s M D P T w) {a : Nat} (ha : a < K) : w.cell? ⟨bd, a, none⟩ = some (.int .i64 (D.getD a 0)) := by
  rw [h.ds.at_, List.getElem?_toArray, List.getElem?_map, List.getD_eq_getElem?_getD, List.getElem?_eq_getElem (by rw [h.dl]; exact ha)]
  rfl
theorem XW.pcell (h : XW w0 p m k g cap qb C bd bp bt K N q s M D P T w) {a : Nat} (ha : a < N) : w.cell? ⟨bp, a, none⟩ = some (.bool (P.getD a false)) := by
  rw [h.ps.at_, List.getElem?_toArray, List.getElem?_map, List.getD_eq_getElem?_getD, List.getElem?_eq_getElem (by rw [h.pl]; exact ha)]
  rfl
theorem XW.tcell (h : XW w0 p m k g cap qb C bd bp bt K N q s M D P T w) {a : Nat} (ha : a < N) : w.cell? ⟨bt, a, none⟩ = some (.int .i64 (T.getD a 0)) := by
  rw [h.ts.at_, List.getElem?_toArray, List.getElem?_map, List.getD_eq_getElem?_getD, List.getElem?_eq_getElem (by rw [h.tl]; exact ha)]
  rfl
/-- A block of the lists is none of the rest. -/
theorem AW.off {t : TypeId} {cs : Array Value} {b : Nat} (h : AW w0 p m k g cap hd0 nilV nilV 0 0 qb C s w) (hb : Blk w b t cs) (h1 : t ≠ 52) (h2 : t ≠ 94) (h3 : t ≠ 113) (h4 : t ≠ 22) (h5 : t ≠ 25) : b ≠ p ∧ b ≠ m ∧ b ≠ k ∧ b ≠ g ∧ b ≠ qb := by
  obtain ⟨cur, hg, _⟩ := h.e.mem.row.blk
  exact ⟨hb.apart h.e.blk h1, hb.apart h.e.mem.blk h2, hb.apart h.e.clk h3, hb.apart hg h4, hb.apart h.q h5⟩
theorem AW.put {t : TypeId} {cs : Array Value} {b : Nat} (h : AW w0 p m k g cap hd0 nilV nilV 0 0 qb C s w) (hb : Blk w b t cs) (hlo : w0.heap.size ≤ b) (h1 : t ≠ 52) (h2 : t ≠ 94) (h3 : t ≠ 113) (h4 : t ≠ 22) (h5 : t ≠ 25) (hf : Fr [b] w w') : AW w0 p m k g cap hd0 nilV nilV 0 0 qb C s w' := by
  obtain ⟨n1, n2, n3, n4, n5⟩ := h.off hb h1 h2 h3 h4 h5
  exact ⟨h.e.fr hf (by simpa using n1.symm) (by simpa using n2.symm) (by simpa using n3.symm) (by simpa using n4.symm), h.q.of_same (hf.block qb h.q.lt (by simpa using n5.symm)), h.n, below_of_fr h.b hf (fun y hy => by simp at hy; rw [hy]; exact hlo), h.lo⟩
theorem MO.off {t : TypeId} {cs : Array Value} {b a : Nat} {X : Mach} (h : MO w a X) (hb : Blk w b t cs) (h1 : t ≠ 88) (h2 : t ≠ 91) (h3 : t ≠ 100) (hf : Fr [b] w w') : MO w' a X := by
  cases X with
  | no => trivial
  | push f => exact ⟨h.1.fr hf (by simpa using (hb.apart h.1.blk h1).symm), h.2⟩
  | pop f => exact ⟨h.1.fr hf (by simpa using (hb.apart h.1.blk h2).symm), h.2⟩
  | steal f => exact ⟨h.1.fr hf (by simpa using (hb.apart h.1.blk h3).symm), h.2⟩
/-- Something else of the call's own changes. -/
theorem XW.put {t : TypeId} {cs : Array Value} {b : Nat} (h : XW w0 p m k g cap qb C bd bp bt K N q s M D P T w) (hb : Blk w b t cs) (hlo : w0.heap.size ≤ b) (ht : t = 37) (hf : Fr [b] w w') : XW w0 p m k g cap qb C bd bp bt K N q s M D P T w' := by
  subst ht
  refine ⟨h.aw.put hb hlo (by decide) (by decide) (by decide) (by decide) (by decide) hf, h.ds.of_same (hf.block _ h.ds.lt (by simpa using (hb.apart h.ds (by decide)).symm)), h.ps.of_same (hf.block _ h.ps.lt (by simpa using (hb.apart h.ps (by decide)).symm)), h.ts.of_same (hf.block _ h.ts.lt (by simpa using (hb.apart h.ts (by decide)).symm)),
    fun a ha => (h.mo a ha).off hb (by decide) (by decide) (by decide) hf, h.ap, h.lo, h.lb, h.dt, h.ml, h.dl, h.pl, h.tl, h.d0, h.kk⟩
theorem set_map {α : Type} (f : α → Value) (l : List α) (i : Nat) (v : α) : (l.map f).toArray.setIfInBounds i (f v) = ((l.set i v).map f).toArray := by
  rw [List.setIfInBounds_toArray, List.map_set]
theorem XW.putD (h : XW w0 p m k g cap qb C bd bp bt K N q s M D P T w) (a : Nat) (v : Int) (h0 : ∀ f, M.getD 0 .no = .push f → f.fa = (D.set a v).getD 0 0 ∧ 0 ≤ (D.set a v).getD 0 0 ∧ (D.set a v).getD 0 0 < N) : XW w0 p m k g cap qb C bd bp bt K N q s M (D.set a v) P T (w.setCell ⟨bd, a, none⟩ (.int .i64 v)) := by
  have hf : Fr [bd] w (w.setCell ⟨bd, a, none⟩ (.int .i64 v)) := (Fr.refl _ _).setCell (by simp) _
  have hp := h.ds.put a (.int .i64 v)
  rw [set_map] at hp
  exact ⟨h.aw.put h.ds h.lb.1 (by decide) (by decide) (by decide) (by decide) (by decide) hf, hp, h.ps.of_same (hf.block _ h.ps.lt (by simpa using (h.ds.apart h.ps (by decide)).symm)), h.ts.of_same (hf.block _ h.ts.lt (by simpa using h.dt.symm)),
    fun b hb => (h.mo b hb).off h.ds (by decide) (by decide) (by decide) hf, h.ap, h.lo, h.lb, h.dt, h.ml, by rw [List.length_set]; exact h.dl, h.pl, h.tl, h0, h.kk⟩
theorem XW.putP (h : XW w0 p m k g cap qb C bd bp bt K N q s M D P T w) (a : Nat) (v : Bool) : XW w0 p m k g cap qb C bd bp bt K N q s M D (P.set a v) T (w.setCell ⟨bp, a, none⟩ (.bool v)) := by
  have hf : Fr [bp] w (w.setCell ⟨bp, a, none⟩ (.bool v)) := (Fr.refl _ _).setCell (by simp) _
  have hp := h.ps.put a (.bool v)
  rw [set_map] at hp
  exact ⟨h.aw.put h.ps h.lb.2.1 (by decide) (by decide) (by decide) (by decide) (by decide) hf, h.ds.of_same (hf.block _ h.ds.lt (by simpa using (h.ps.apart h.ds (by decide)).symm)), hp, h.ts.of_same (hf.block _ h.ts.lt (by simpa using (h.ps.apart h.ts (by decide)).symm)),
    fun b hb => (h.mo b hb).off h.ps (by decide) (by decide) (by decide) hf, h.ap, h.lo, h.lb, h.dt, h.ml, h.dl, by rw [List.length_set]; exact h.pl, h.tl, h.d0, h.kk⟩
theorem XW.putT (h : XW w0 p m k g cap qb C bd bp bt K N q s M D P T w) (a : Nat) (v : Int) : XW w0 p m k g cap qb C bd bp bt K N q s M D P (T.set a v) (w.setCell ⟨bt, a, none⟩ (.int .i64 v)) := by
  have hf : Fr [bt] w (w.setCell ⟨bt, a, none⟩ (.int .i64 v)) := (Fr.refl _ _).setCell (by simp) _
  have hp := h.ts.put a (.int .i64 v)
  rw [set_map] at hp
  exact ⟨h.aw.put h.ts h.lb.2.2 (by decide) (by decide) (by decide) (by decide) (by decide) hf, h.ds.of_same (hf.block _ h.ds.lt (by simpa using h.dt)), h.ps.of_same (hf.block _ h.ps.lt (by simpa using (h.ts.apart h.ps (by decide)).symm)), hp,
    fun b hb => (h.mo b hb).off h.ts (by decide) (by decide) (by decide) hf, h.ap, h.lo, h.lb, h.dt, h.ml, h.dl, h.pl, by rw [List.length_set]; exact h.tl, h.d0, h.kk⟩
theorem xcells_set (q : Nat → Nat) (M : List Mach) (K a x : Nat) (X : Mach) (hM : M.length = K) (ha : a < K) : (xcells K q M).setIfInBounds a (mval x X) = xcells K (fun b => if b = a then x else q b) (M.set a X) := by
  unfold xcells
  rw [List.setIfInBounds_toArray]
  congr 1
  apply List.ext_getElem
  · simp
  · intro i h1 h2
    simp only [List.length_set, List.length_map, List.length_range] at h1 h2
    rw [List.getElem_set]
    by_cases e : a = i
    · subst e
      rw [if_pos rfl, List.getElem_map, List.getElem_range]
      show mval x X = mval (if a = a then x else q a) ((M.set a X).getD a .no)
      rw [if_pos rfl, set_at _ _ _ _ (by omega)]
    · rw [if_neg e, List.getElem_map, List.getElem_map, List.getElem_range]
      show mval (q i) (M.getD i .no) = mval (if i = a then x else q i) ((M.set a X).getD i .no)
      rw [if_neg (by omega), set_off _ _ _ _ _ e]
/-- A machine is laid into the list. -/
theorem XS.put (h : XS w0 bx K q M w) (hM : M.length = K) {a : Nat} (ha : a < K) (x : Nat) (X : Mach) : XS w0 bx K (fun b => if b = a then x else q b) (M.set a X) (w.setCell ⟨bx, a, none⟩ (mval x X)) := by
  have hp := h.1.put a (mval x X)
  rw [xcells_set q M K a x X hM ha] at hp
  exact ⟨hp, h.2⟩
theorem XS.same (h : XS w0 bx K q M w) {q' : Nat → Nat} {M' : List Mach} (e : xcells K q' M' = xcells K q M) : XS w0 bx K q' M' w := by
  refine ⟨?_, h.2⟩
  rw [e]
  exact h.1
/-- A new machine (block x) stands for actor a. -/
theorem XW.more {a x : Nat} {X : Mach} (h : XW w0 p m k g cap qb C bd bp bt K N q s M D P T w) (ha : a < K) (hX : MO w x X) (hx : ∀ b, b < K → M.getD b .no ≠ .no → q b ≠ x) (hlo : w0.heap.size ≤ x) (h0 : ∀ f, (M.set a X).getD 0 .no = .push f → f.fa = D.getD 0 0 ∧ 0 ≤ D.getD 0 0 ∧ D.getD 0 0 < N) :
    XW w0 p m k g cap qb C bd bp bt K N (fun b => if b = a then x else q b) s (M.set a X) D P T w := by
  have hml := h.ml
  have e1 : (M.set a X).getD a .no = X := set_at _ _ _ _ (by omega)
  have e2 : ∀ b, b ≠ a → (M.set a X).getD b .no = M.getD b .no := fun b hb => set_off _ _ _ _ _ (fun e => hb e.symm)
  refine ⟨h.aw, h.ds, h.ps, h.ts, fun b hb => ?_, fun b c hb hc hbc n1 n2 => ?_, fun b hb n1 => ?_, h.lb, h.dt, by rw [List.length_set]; exact hml, h.dl, h.pl, h.tl, h0, h.kk⟩
  · by_cases e : b = a
    · subst e
      rw [if_pos rfl, e1]
      exact hX
    · rw [if_neg e, e2 b e]
      exact h.mo b hb
  · by_cases eb : b = a
    · subst eb
      have hc' : c ≠ b := fun e => hbc e.symm
      rw [e2 c hc'] at n2
      show (if b = b then x else q b) ≠ (if c = b then x else q c)
      rw [if_pos rfl, if_neg hc']
      exact (hx c hc n2).symm
    · rw [e2 b eb] at n1
      show (if b = a then x else q b) ≠ (if c = a then x else q c)
      rw [if_neg eb]
      by_cases ec : c = a
      · rw [if_pos ec]
        exact hx b hb n1
      · rw [if_neg ec]
        rw [e2 c ec] at n2
        exact h.ap b c hb hc hbc n1 n2
  · show _ ≤ (if b = a then x else q b)
    by_cases e : b = a
    · rw [if_pos e]
      exact hlo
    · rw [if_neg e]
      rw [e2 b e] at n1
      exact h.lo b hb n1
/-- A step of the machine of actor a: its block and the memory change. -/
theorem XW.step {a : Nat} {X : Mach} {ty : TypeId} {post : List Value} {f : Fra} (h : XW w0 p m k g cap qb C bd bp bt K N q s M D P T w) (ha : a < K) (hn : M.getD a .no ≠ .no) (ho : OB w (q a) ty post f 0 0) (ht : ty = 88 ∨ ty = 91 ∨ ty = 100)
    (hp : PE w' p m k g cap s' 0 0 hd0 nilV nilV) (hf : Fr [m, g, q a] w w') (hN : s'.N) (hX : MO w' (q a) X) (h0 : ∀ f, (M.set a X).getD 0 .no = .push f → f.fa = D.getD 0 0 ∧ 0 ≤ D.getD 0 0 ∧ D.getD 0 0 < N) :
    XW w0 p m k g cap qb C bd bp bt K N q s' (M.set a X) D P T w' := by
  obtain ⟨cur, hg, _⟩ := h.aw.e.mem.row.blk
  have hml := h.ml
  have e1 : (M.set a X).getD a .no = X := set_at _ _ _ _ (by omega)
  have e2 : ∀ b, b ≠ a → (M.set a X).getD b .no = M.getD b .no := fun b hb => set_off _ _ _ _ _ (fun e => hb e.symm)
  have tq : ty ≠ 25 := by rcases ht with rfl | rfl | rfl <;> decide
  have keep : ∀ {b : Nat} {t : TypeId} {cs : Array Value}, Blk w b t cs → t ≠ 94 → t ≠ 22 → (t ≠ 88 ∧ t ≠ 91 ∧ t ≠ 100) → Blk w' b t cs := fun {b t cs} hb n1 n2 n3 => hb.of_same (hf.block b hb.lt (by
    simp only [List.mem_cons, List.not_mem_nil, or_false, not_or]
    refine ⟨hb.apart h.aw.e.mem.blk n1, hb.apart hg n2, hb.apart ho.blk ?_⟩
    rcases ht with rfl | rfl | rfl
    · exact n3.1
    · exact n3.2.1
    · exact n3.2.2))
  refine ⟨h.aw.done ho tq (h.lo a ha hn) hp hf hN, keep h.ds (by decide) (by decide) (by decide), keep h.ps (by decide) (by decide) (by decide), keep h.ts (by decide) (by decide) (by decide), fun b hb => ?_, fun b c hb hc hbc n1 n2 => ?_, fun b hb n1 => ?_, h.lb, h.dt, by rw [List.length_set]; exact hml, h.dl, h.pl, h.tl, h0, h.kk⟩
  · by_cases e : b = a
    · subst e
      rw [e1]
      exact hX
    · rw [e2 b e]
      refine (h.mo b hb).fr hf (fun n1 hob => ?_)
      obtain ⟨ty2, post2, f2, ho2⟩ := hob
      obtain ⟨m1, m2, m3, m4⟩ := ho2.ne h.aw.e
      simp only [List.mem_cons, List.not_mem_nil, or_false, not_or]
      exact ⟨m2, m4, h.ap b a hb ha e n1 hn⟩
  · refine h.ap b c hb hc hbc ?_ ?_
    · by_cases e : b = a
      · rw [e]; exact hn
      · rw [e2 b e] at n1; exact n1
    · by_cases e : c = a
      · rw [e]; exact hn
      · rw [e2 c e] at n2; exact n2
  · refine h.lo b hb ?_
    by_cases e : b = a
    · rw [e]; exact hn
    · rw [e2 b e] at n1; exact n1
theorem XS.step {a : Nat} {ty : TypeId} {post : List Value} {f : Fra} (h : XS w0 bx K q M w) (hx : XW w0 p m k g cap qb C bd bp bt K N q s M D P T w) (ho : OB w (q a) ty post f 0 0) (ht : ty = 88 ∨ ty = 91 ∨ ty = 100) (hf : Fr [m, g, q a] w w') : XS w0 bx K q M w' := by
  obtain ⟨cur, hg, _⟩ := hx.aw.e.mem.row.blk
  refine ⟨h.1.of_same (hf.block bx h.1.lt ?_), h.2⟩
  simp only [List.mem_cons, List.not_mem_nil, or_false, not_or]
  refine ⟨h.1.apart hx.aw.e.mem.blk (by decide), h.1.apart hg (by decide), h.1.apart ho.blk ?_⟩
  rcases ht with rfl | rfl | rfl <;> decide
/-- Where a machine goes on, its value stays. -/
theorem xcells_on (q : Nat → Nat) (M : List Mach) (K a : Nat) (X : Mach) (hM : M.length = K) (e : mval (q a) X = mval (q a) (M.getD a .no)) : xcells K q (M.set a X) = xcells K q M := by
  unfold xcells
  congr 1
  refine List.map_congr_left (fun i hi => ?_)
  have hi := List.mem_range.1 hi
  by_cases ei : a = i
  · subst ei
    rw [set_at _ _ _ _ (by omega)]
    exact e
  · rw [set_off _ _ _ _ _ ei]
/-- .. and where it is done, the list is told so by a store. -/
theorem xcells_no (q : Nat → Nat) (M : List Mach) (K a : Nat) (hM : M.length = K) (ha : a < K) : (xcells K q M).setIfInBounds a .nilIface = xcells K q (M.set a .no) := by
  have h := xcells_set q M K a (q a) .no hM ha
  rw [show (fun b => if b = a then q a else q b) = q from funext fun b => by split <;> simp_all] at h
  exact h
theorem XS.over (h : XS w0 bx K q M w) (hM : M.length = K) {a : Nat} (ha : a < K) : XS w0 bx K q (M.set a .no) (w.setCell ⟨bx, a, none⟩ .nilIface) := by
  have hp := h.1.put a .nilIface
  rw [xcells_no q M K a hM ha] at hp
  exact ⟨hp, h.2⟩
/-- How far all are: in the last rounds each in its turn has twelve steps. -/
def Prog (L K i : Nat) (M : List Mach) : Prop := ∀ a, a < K → M.getD a .no = .no ∨ (1 ≤ (M.getD a .no).line ∧ (M.getD a .no).line ≤ 9 ∧ (i : Int) - L - 12 * a + 1 ≤ (M.getD a .no).line)
theorem Prog.next {L i a : Nat} (h : Prog L K i M) (hM : M.length = K) (X : Mach) (ha : L ≤ i → a = (i - L) / 12) (hX : X = .no ∨ (1 ≤ X.line ∧ X.line ≤ 9 ∧ (i : Int) - L - 12 * a + 2 ≤ X.line)) : Prog L K (i + 1) (M.set a X) := by
  intro b hb
  by_cases e : a = b
  · subst e
    rw [set_at _ _ _ _ (by omega)]
    rcases hX with h | h
    · exact .inl h
    · exact .inr (by omega)
  · rw [set_off _ _ _ _ _ e]
    rcases h b hb with h1 | ⟨h1, h2, h3⟩
    · exact .inl h1
    · refine .inr ⟨h1, h2, ?_⟩
      by_cases hi : L ≤ i
      · have := ha hi
        omega
      · omega
theorem Prog.skip {L i a : Nat} (h : Prog L K i M) (hi : L ≤ i) (ha : a = (i - L) / 12) (hn : M.getD a .no = .no) : Prog L K (i + 1) M := by
  intro b hb
  by_cases e : a = b
  · subst e
    exact .inl hn
  · rcases h b hb with h1 | ⟨h1, h2, h3⟩
    · exact .inl h1
    · exact .inr ⟨h1, h2, by omega⟩
theorem Prog.new {L i a : Nat} (h : Prog L K i M) (hM : M.length = K) (X : Mach) (hi : i < L) (hX : 1 ≤ X.line ∧ X.line ≤ 9) : Prog L K i (M.set a X) := by
  intro b hb
  by_cases e : a = b
  · subst e
    rw [set_at _ _ _ _ (by omega)]
    exact .inr ⟨hX.1, hX.2, by omega⟩
  · rw [set_off _ _ _ _ _ e]
    exact h b hb
theorem Prog.begin (L : Nat) : Prog L K 0 (List.replicate K .no) := fun a ha => .inl (getD_rep ..)
theorem Prog.end {L : Nat} (h : Prog L K (L + 12 * K) M) (a : Nat) (ha : a < K) : M.getD a .no = .no := by
  rcases h a ha with h | ⟨_, h1, h2⟩
  · exact h
  · omega
end
theorem steal_cd {s : St} {f : Fra} (h : (stealS s f).2.2.dn = true) : (stealS s f).2.2.cd ≠ 0 := by
  revert h
  unfold stealS
  split
  · intro h; exact absurd h (by simp)
  split
  · split
    · intro _
      show (2 : Int) ≠ 0
      decide
    · intro h; exact absurd h (by simp)
  split
  · intro h; exact absurd h (by simp)
  · intro _
    show (if s.hit f.qt f.fv then (⟨true, 1, wrap64 f.fw⟩ : Res) else ⟨true, 4, 0⟩).cd ≠ 0
    split
    · show (1 : Int) ≠ 0
      decide
    · show (4 : Int) ≠ 0
      decide
end Go.Proofs.Ytplifdmfoeejaaa
