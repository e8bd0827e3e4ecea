/-
  Several machines of the lock in a list, beside the lists of what the law keeps.
-/
import Derived.Test.YtclbkmhlgopcaaaLkW
namespace Go.Proofs.Ytclbkmhlgopcaaa
open Go Go.RowKit Go.Shelf
set_option linter.unusedSimpArgs false
set_option linter.unusedVariables false

/-- A row written by a function. -/
abbrev rowA (n : Nat) (f : Nat → Value) : Array Value := ((List.range n).map f).toArray
theorem rowA_set {n a : Nat} (f : Nat → Value) (v : Value) (ha : a < n) : (rowA n f).setIfInBounds a v = rowA n (fun b => if b = a then v else f b) := by
  unfold rowA
  rw [List.setIfInBounds_toArray]
  congr 1
  apply List.ext_getElem
  · simp
  · intro i h1 h2
    simp only [List.length_set, List.length_map, List.length_range] at h1 h2
    rw [List.getElem_set, List.getElem_map, List.getElem_map, List.getElem_range]
    by_cases e : a = i
    · rw [if_pos e, if_pos e.symm]
    · rw [if_neg e, if_neg (fun h => e h.symm)]
theorem rowA_at {w : World} {b n a : Nat} {t : TypeId} {f : Nat → Value} (h : Blk w b t (rowA n f)) (ha : a < n) : w.cell? ⟨b, a, none⟩ = some (f a) := by
  rw [h.at_, List.getElem?_toArray, List.getElem?_map, List.getElem?_range ha]
  rfl
theorem rowA_rep (n : Nat) (v : Value) : (List.replicate n v).toArray = rowA n fun _ => v := by
  unfold rowA
  congr 1
  apply List.ext_getElem
  · simp
  · intro i h1 h2
    simp
/-- A machine's value: none, Acquire's, Try's, Release's. -/
def lmv (q : Nat) : Nat → Value
  | 0 => .nilIface
  | 1 => .iface 72 (.pointer (some ⟨q, 0, none⟩))
  | 2 => .iface 77 (.pointer (some ⟨q, 0, none⟩))
  | _ => .iface 66 (.pointer (some ⟨q, 0, none⟩))
/-- Its block. -/
def LM (w : World) (a q : Nat) : Nat → Prop
  | 0 => True
  | 1 => LB w q 76 [.int .i64 a] (fra1 7 0 0 0 0 a) 0 0
  | 2 => LB w q 78 [.int .i64 a] (fra1 8 0 0 0 0 a) 0 0
  | _ => LB w q 71 [] (fra1 9 0 0 0 0 0) 0 0
theorem LM.lb {w : World} {a q : Nat} : ∀ {K : Nat}, LM w a q K → K ≠ 0 → ∃ ty post f, LB w q ty post f 0 0 ∧ (ty = 76 ∨ ty = 78 ∨ ty = 71)
  | 0, _, hn => absurd rfl hn
  | 1, h, _ => ⟨_, _, _, h, .inl rfl⟩
  | 2, h, _ => ⟨_, _, _, h, .inr (.inl rfl)⟩
  | _ + 3, h, _ => ⟨_, _, _, h, .inr (.inr rfl)⟩
theorem LM.same {w w' : World} {a q : Nat} : ∀ {K : Nat}, LM w a q K → (K ≠ 0 → w'.heap[q]? = w.heap[q]?) → LM w' a q K
  | 0, _, _ => trivial
  | 1, h, e => LB.of_same h (e (by decide))
  | 2, h, e => LB.of_same h (e (by decide))
  | _ + 3, h, e => LB.of_same h (e (by omega))
theorem LM.lt {w : World} {a q K : Nat} (h : LM w a q K) (hn : K ≠ 0) : q < w.heap.size := by
  obtain ⟨_, _, _, hb, _⟩ := h.lb hn
  exact hb.blk.lt
theorem lmv_live (q : Nat) {K : Nat} (hn : K ≠ 0) : ∃ ty, lmv q K = .iface ty (.pointer (some ⟨q, 0, none⟩)) := by
  rcases K with _ | _ | _ | K
  · exact absurd rfl hn
  · exact ⟨_, rfl⟩
  · exact ⟨_, rfl⟩
  · exact ⟨_, rfl⟩
theorem eql_lm {q K : Nat} {V : Value} (h : lmv q K = V) : ∃ bn : Bool, (bn = true ↔ K = 0) ∧ (∀ W : World, (binOp .eql 45 V .nilIface).run Try.prog W = .ok (.bool bn) W) ∧ ∀ (W : World) (x : Operand), (eqGuard .eql 45 x (.const .nilIface) V .nilIface).run Try.prog W = .ok () W := by
  subst h
  rcases K with _ | _ | _ | K
  · exact ⟨true, by simp, fun W => by kernel_rfl, fun W x => by cases x <;> rfl⟩
  · exact ⟨false, by simp, fun W => by kernel_rfl, fun W x => rfl⟩
  · exact ⟨false, by simp, fun W => by kernel_rfl, fun W x => rfl⟩
  · exact ⟨false, by simp, fun W => by kernel_rfl, fun W x => rfl⟩

/-- The environment and the machines. -/
structure LXW (w0 : World) (p m k g cap : Nat) (c : Cfg) (hd : List Value) (rv : Value) (n : Nat) (q M : Nat → Nat) (s : St) (w : World) : Prop where
  e : EW w0 p m k g cap c hd rv (.slice none 0 0) s w
  mo : ∀ a, a < n → LM w a (q a) (M a)
  ap : ∀ a b, a < n → b < n → a ≠ b → M a ≠ 0 → M b ≠ 0 → q a ≠ q b
  lo : ∀ a, a < n → M a ≠ 0 → w0.heap.size ≤ q a
/-- The three lists. -/
structure LXR (w0 : World) (bx bh bl n : Nat) (X : Nat → Value) (H L : Nat → Bool) (w : World) : Prop where
  x : Blk w bx 45 (rowA n X)
  h : Blk w bh 4 (rowA n fun a => .bool (H a))
  l : Blk w bl 4 (rowA n fun a => .bool (L a))
  lo : w0.heap.size ≤ bx ∧ w0.heap.size ≤ bh ∧ w0.heap.size ≤ bl
  ne : bh ≠ bl
section
variable {w0 w w' : World} {p m k g cap : Nat} {c : Cfg} {hd : List Value} {rv : Value} {n bx bh bl : Nat} {q M : Nat → Nat} {s s' : St} {X : Nat → Value} {H L : Nat → Bool}
theorem LXW.below (h : LXW w0 p m k g cap c hd rv n q M s w) (hb : Below w.heap.size w w') : LXW w0 p m k g cap c hd rv n q M s w' :=
  ⟨h.e.below hb, fun a ha => (h.mo a ha).same (fun hn => hb.block _ ((h.mo a ha).lt hn)), h.ap, h.lo⟩
theorem LXR.below (h : LXR w0 bx bh bl n X H L w) (hb : Below w.heap.size w w') : LXR w0 bx bh bl n X H L w' :=
  ⟨h.x.below hb, h.h.below hb, h.l.below hb, h.lo, h.ne⟩
/-- A list changes. -/
theorem LXW.off {t : TypeId} {cs : Array Value} {b : Nat} (h : LXW w0 p m k g cap c hd rv n q M s w) (hb : Blk w b t cs) (hlo : w0.heap.size ≤ b) (ht : t = 45 ∨ t = 4) (hf : Fr [b] w w') : LXW w0 p m k g cap c hd rv n q M s w' := by
  obtain ⟨cur, hg, _⟩ := h.e.e.mem.row.blk
  have n1 : b ≠ p := hb.apart h.e.e.blk (by rcases ht with rfl | rfl <;> decide)
  have n2 : b ≠ m := hb.apart h.e.e.mem.blk (by rcases ht with rfl | rfl <;> decide)
  have n3 : b ≠ k := hb.apart h.e.e.clk (by rcases ht with rfl | rfl <;> decide)
  have n4 : b ≠ g := hb.apart hg (by rcases ht with rfl | rfl <;> decide)
  refine ⟨⟨h.e.e.fr hf (by simpa using n1.symm) (by simpa using n2.symm) (by simpa using n3.symm) (by simpa using n4.symm), h.e.l, h.e.i, h.e.u, below_of_fr h.e.b hf (fun y hy => by simp at hy; rw [hy]; exact hlo), h.e.lo⟩, fun a ha => (h.mo a ha).same (fun hn => ?_), h.ap, h.lo⟩
  obtain ⟨ty, post, f, ho, ht2⟩ := (h.mo a ha).lb hn
  refine hf.block _ ho.blk.lt ?_
  simp only [List.mem_cons, List.not_mem_nil, or_false]
  exact ho.blk.apart hb (by rcases ht with rfl | rfl <;> rcases ht2 with rfl | rfl | rfl <;> decide)
/-- A new machine (block x) stands for actor a. -/
theorem LXW.more {a x K : Nat} (h : LXW w0 p m k g cap c hd rv n q M s w) (ha : a < n) (hX : LM w a x K) (hx : ∀ b, b < n → M b ≠ 0 → q b ≠ x) (hlo : w0.heap.size ≤ x) :
    LXW w0 p m k g cap c hd rv n (fun b => if b = a then x else q b) (fun b => if b = a then K else M b) s w := by
  refine ⟨h.e, fun b hb => ?_, fun b d hb hd hbd n1 n2 => ?_, fun b hb n1 => ?_⟩
  · by_cases e : b = a
    · subst e
      simpa using hX
    · simpa [e] using h.mo b hb
  · by_cases eb : b = a
    · subst eb
      have hd' : d ≠ b := fun e => hbd e.symm
      simp only [if_neg hd'] at n2
      simp only [if_pos rfl, if_neg hd']
      exact (hx d hd n2).symm
    · simp only [if_neg eb] at n1
      by_cases ed : d = a
      · subst ed
        simp only [if_neg eb, if_pos rfl]
        exact hx b hb n1
      · simp only [if_neg ed] at n2
        simp only [if_neg eb, if_neg ed]
        exact h.ap b d hb hd hbd n1 n2
  · by_cases e : b = a
    · simpa [e] using hlo
    · simp only [if_neg e] at n1 ⊢
      exact h.lo b hb n1
/-- A step of the machine of actor a. -/
theorem LXW.step {a K : Nat} (h : LXW w0 p m k g cap c hd rv n q M s w) (ha : a < n) (hn : M a ≠ 0) (hp : PE w' p m k g cap s' 0 0 hd rv (.slice none 0 0)) (hf : Fr [m, g, q a] w w') (hu : s'.U) (hX : LM w' a (q a) K) :
    LXW w0 p m k g cap c hd rv n q (fun b => if b = a then K else M b) s' w' := by
  obtain ⟨ty, post, f, ho, ht⟩ := (h.mo a ha).lb hn
  refine ⟨h.e.done (h.lo a ha hn) hp hf hu, fun b hb => ?_, fun b d hb hd hbd n1 n2 => ?_, fun b hb n1 => ?_⟩
  · by_cases e : b = a
    · subst e
      simpa using hX
    · simp only [if_neg e]
      refine (h.mo b hb).same (fun n1 => ?_)
      obtain ⟨ty2, post2, f2, ho2, _⟩ := (h.mo b hb).lb n1
      obtain ⟨m1, m2, m3, m4⟩ := ho2.ne h.e.e
      refine hf.block _ ho2.blk.lt ?_
      simp only [List.mem_cons, List.not_mem_nil, or_false, not_or]
      exact ⟨m2, m4, h.ap b a hb ha e n1 hn⟩
  · refine h.ap b d hb hd hbd ?_ ?_
    · by_cases e : b = a
      · rw [e]; exact hn
      · simpa [e] using n1
    · by_cases e : d = a
      · rw [e]; exact hn
      · simpa [e] using n2
  · refine h.lo b hb ?_
    by_cases e : b = a
    · rw [e]; exact hn
    · simpa [e] using n1
theorem LXR.step {a : Nat} (h : LXR w0 bx bh bl n X H L w) (hw : LXW w0 p m k g cap c hd rv n q M s w) (ha : a < n) (hn : M a ≠ 0) (hf : Fr [m, g, q a] w w') : LXR w0 bx bh bl n X H L w' := by
  obtain ⟨cur, hg, _⟩ := hw.e.e.mem.row.blk
  obtain ⟨ty, post, f, ho, ht⟩ := (hw.mo a ha).lb hn
  have off : ∀ {b : Nat} {t : TypeId} {cs : Array Value}, Blk w b t cs → t = 45 ∨ t = 4 → Blk w' b t cs := fun {b t cs} hb h1 => hb.of_same (hf.block b hb.lt (by
    simp only [List.mem_cons, List.not_mem_nil, or_false, not_or]
    exact ⟨hb.apart hw.e.e.mem.blk (by rcases h1 with rfl | rfl <;> decide), hb.apart hg (by rcases h1 with rfl | rfl <;> decide), hb.apart ho.blk (by rcases h1 with rfl | rfl <;> rcases ht with rfl | rfl | rfl <;> decide)⟩))
  exact ⟨off h.x (.inl rfl), off h.h (.inr rfl), off h.l (.inr rfl), h.lo, h.ne⟩
theorem LXR.putX (h : LXR w0 bx bh bl n X H L w) {a : Nat} (ha : a < n) (v : Value) : LXR w0 bx bh bl n (fun b => if b = a then v else X b) H L (w.setCell ⟨bx, a, none⟩ v) := by
  have hf : Fr [bx] w (w.setCell ⟨bx, a, none⟩ v) := (Fr.refl _ _).setCell (by simp) _
  have hp := h.x.put a v
  rw [rowA_set _ _ ha] at hp
  exact ⟨hp, h.h.of_same (hf.block _ h.h.lt (by simpa using (h.x.apart h.h (by decide)).symm)), h.l.of_same (hf.block _ h.l.lt (by simpa using (h.x.apart h.l (by decide)).symm)), h.lo, h.ne⟩
theorem LXR.putH (h : LXR w0 bx bh bl n X H L w) {a : Nat} (ha : a < n) (v : Bool) : LXR w0 bx bh bl n X (fun b => if b = a then v else H b) L (w.setCell ⟨bh, a, none⟩ (.bool v)) := by
  have hf : Fr [bh] w (w.setCell ⟨bh, a, none⟩ (.bool v)) := (Fr.refl _ _).setCell (by simp) _
  have hp := h.h.put a (.bool v)
  rw [rowA_set _ _ ha] at hp
  refine ⟨h.x.of_same (hf.block _ h.x.lt (by simpa using h.x.apart h.h (by decide))), ?_, h.l.of_same (hf.block _ h.l.lt (by simpa using h.ne.symm)), h.lo, h.ne⟩
  rw [show (fun b => Value.bool (if b = a then v else H b)) = fun b => if b = a then Value.bool v else Value.bool (H b) from funext fun b => by split <;> rfl]
  exact hp
theorem LXR.putL (h : LXR w0 bx bh bl n X H L w) {a : Nat} (ha : a < n) (v : Bool) : LXR w0 bx bh bl n X H (fun b => if b = a then v else L b) (w.setCell ⟨bl, a, none⟩ (.bool v)) := by
  have hf : Fr [bl] w (w.setCell ⟨bl, a, none⟩ (.bool v)) := (Fr.refl _ _).setCell (by simp) _
  have hp := h.l.put a (.bool v)
  rw [rowA_set _ _ ha] at hp
  refine ⟨h.x.of_same (hf.block _ h.x.lt (by simpa using h.x.apart h.l (by decide))), h.h.of_same (hf.block _ h.h.lt (by simpa using h.ne)), ?_, h.lo, h.ne⟩
  rw [show (fun b => Value.bool (if b = a then v else L b)) = fun b => if b = a then Value.bool v else Value.bool (L b) from funext fun b => by split <;> rfl]
  exact hp
theorem LXR.congr {X' : Nat → Value} {H' L' : Nat → Bool} (h : LXR w0 bx bh bl n X H L w) (e1 : ∀ a, a < n → X a = X' a) (e2 : ∀ a, a < n → H a = H' a) (e3 : ∀ a, a < n → L a = L' a) : LXR w0 bx bh bl n X' H' L' w := by
  have f1 : rowA n X = rowA n X' := by unfold rowA; congr 1; exact List.map_congr_left fun a ha => e1 a (List.mem_range.1 ha)
  have f2 : (rowA n fun a => Value.bool (H a)) = rowA n fun a => Value.bool (H' a) := by unfold rowA; congr 1; exact List.map_congr_left fun a ha => by rw [e2 a (List.mem_range.1 ha)]
  have f3 : (rowA n fun a => Value.bool (L a)) = rowA n fun a => Value.bool (L' a) := by unfold rowA; congr 1; exact List.map_congr_left fun a ha => by rw [e3 a (List.mem_range.1 ha)]
  exact ⟨f1 ▸ h.x, f2 ▸ h.h, f3 ▸ h.l, h.lo, h.ne⟩
end
/-- What the lock contains. -/
def lockV : Option Nat → Int
  | none => 0
  | some a => a + 1
/-- Who holds the lock, beside the machines. -/
structure LXI (n : Nat) (M : Nat → Nat) (h : Option Nat) (s : St) : Prop where
  k : LK s (lockV h)
  r : ∀ a, a < n → M a = 3 → h = some a
  u : ∀ a, a < n → M a = 1 ∨ M a = 2 → h ≠ some a
  l : ∀ a, h = some a → a < n
  t : ∀ a, a < n → M a ≤ 3
/-- What becomes of the holder when a machine is done. -/
def LXD (M : Nat → Nat) (h h' : Option Nat) (a : Nat) (cd : Int) : Prop := ∀ b, decide (h' = some b) = if b = a then (!(decide (M a = 3)) && cd == 1) else decide (h = some b)
section
variable {n a : Nat} {M : Nat → Nat} {h : Option Nat} {s : St}
theorem LXI.begin (hi : LXI n M h s) (ha : a < n) {K : Nat} (hK : K = 1 ∨ K = 2 ∨ K = 3) (h3 : K = 3 ↔ h = some a) : LXI n (fun b => if b = a then K else M b) h s := by
  refine ⟨hi.k, fun b hb e => ?_, fun b hb e => ?_, hi.l, fun b hb => ?_⟩
  · by_cases eb : b = a
    · subst eb
      simp only [if_pos rfl] at e
      exact h3.1 e
    · simp only [if_neg eb] at e
      exact hi.r b hb e
  · by_cases eb : b = a
    · subst eb
      have e' : K = 1 ∨ K = 2 := by simpa using e
      intro e2
      have := h3.2 e2
      omega
    · simp only [if_neg eb] at e
      exact hi.u b hb e
  · by_cases eb : b = a
    · simp only [if_pos eb]; omega
    · simp only [if_neg eb]; exact hi.t b hb
theorem LXI.rel (hi : LXI n M h s) (ha : a < n) (hM : M a = 3) (f : Fra) : LXI n (fun b => if b = a then 0 else M b) none (relS s f).1 ∧ LXD M h none a 0 := by
  have hh := hi.r a ha hM
  refine ⟨⟨hi.k.free f, fun b hb e => ?_, fun b hb e => (by simp), fun b e => (by cases e), fun b hb => ?_⟩, fun b => ?_⟩
  · by_cases eb : b = a
    · simp [eb] at e
    · simp only [if_neg eb] at e
      have := hi.r b hb e
      rw [hh] at this
      exact absurd (Option.some.inj this).symm eb
  · by_cases eb : b = a
    · simp [eb]
    · simp only [if_neg eb]; exact hi.t b hb
  · by_cases eb : b = a
    · rw [if_pos eb, hM]; rfl
    · rw [if_neg eb, hh]
      have : ¬ a = b := fun e => eb e.symm
      simp [this]
theorem LXI.get (hi : LXI n M none s) (ha : a < n) (hn : n ≤ 100) (hM : M a = 1 ∨ M a = 2) : LXI n (fun b => if b = a then 0 else M b) (some a) (lkTake s a) ∧ LXD M none (some a) a 1 := by
  have hk := (show LK s 0 from hi.k).got a
  refine ⟨⟨?_, fun b hb e => ?_, fun b hb e e2 => ?_, fun b e => ?_, fun b hb => ?_⟩, fun b => ?_⟩
  · have := hk.2
    rw [lkU_small (by omega)] at this
    exact this
  · by_cases eb : b = a
    · simp [eb] at e
    · simp only [if_neg eb] at e
      exact absurd (hi.r b hb e) (by simp)
  · by_cases eb : b = a
    · simp [eb] at e
    · exact eb (Option.some.inj e2).symm
  · rw [← Option.some.inj e]
    exact ha
  · by_cases eb : b = a
    · simp [eb]
    · simp only [if_neg eb]; exact hi.t b hb
  · by_cases eb : b = a
    · rw [if_pos eb, eb]
      have : ¬ M a = 3 := by omega
      simp [this]
    · rw [if_neg eb]
      have : ¬ a = b := fun e => eb e.symm
      simp [this]
theorem LXI.miss (hi : LXI n M h s) (ha : a < n) (hM : M a = 1 ∨ M a = 2) (hh : h ≠ none) {K : Nat} (hK : K = M a ∨ K = 0) : s.hit 1 0 = false ∧ LXI n (fun b => if b = a then K else M b) h (lkTake s a) ∧ LXD M h h a 5 := by
  obtain ⟨d, rfl⟩ : ∃ d, h = some d := by
    cases h with
    | none => exact absurd rfl hh
    | some d => exact ⟨d, rfl⟩
  have hk := hi.k.busy (show lockV (some d) ≠ 0 by show (d : Int) + 1 ≠ 0; omega) a
  have hu := hi.u a ha hM
  refine ⟨hk.1, ⟨hk.2, fun b hb e => ?_, fun b hb e => ?_, hi.l, fun b hb => ?_⟩, fun b => ?_⟩
  · by_cases eb : b = a
    · simp only [if_pos eb] at e
      omega
    · simp only [if_neg eb] at e
      exact hi.r b hb e
  · by_cases eb : b = a
    · rw [eb]; exact hu
    · simp only [if_neg eb] at e
      exact hi.u b hb e
  · by_cases eb : b = a
    · simp only [if_pos eb]
      omega
    · simp only [if_neg eb]; exact hi.t b hb
  · by_cases eb : b = a
    · rw [if_pos eb, eb]
      simpa using fun e : d = a => hu (by rw [e])
    · rw [if_neg eb]
end
end Go.Proofs.Ytclbkmhlgopcaaa
