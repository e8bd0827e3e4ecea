/-
  A map of the call's own whose keys are ints and whose elements are bools, told as the set of its keys: emptied, filled, deleted from, counted. The contract of begin.
-/
import Derived.Test.YtpaacpcmijhcmaaScCallsA
import Derived.Maps.OwnSet
namespace Go.Proofs.Ytpaacpcmijhcmaa
open Go Go.RowKit Go.Maps Go.WideElems Go.ChangeMaps Go.MapKept

/-- Block b is a map whose keys are those that p says. -/
def MSet (w : World) (b : Nat) (p : Int → Bool) : Prop :=
  ∃ (n : Nat) (D : DataW Unit), w.ownsMap Try.prog 3 (plainElem Try.prog 4) b n D ∧ ∀ m : Int, Maps.has D (.int .i64 m) = p m

theorem keyedI : Keyed Try.prog 3 := int_keyed Try.underlying3

theorem MSet.lt {w : World} {b : Nat} {p : Int → Bool} (h : MSet w b p) : b < w.heap.size := by
  obtain ⟨n, D, hown, _⟩ := h
  exact hown.lt
theorem MSet.below {w w' : World} {b : Nat} {p : Int → Bool} (h : MSet w b p) (hb : Below w.heap.size w w') : MSet w' b p := by
  obtain ⟨n, D, hown, hp⟩ := h
  have hlt := hown.lt
  obtain ⟨es, clock, hb0, r⟩ := hown
  exact ⟨n, D, ⟨es, clock, (hb.block b hlt).trans hb0, r⟩, hp⟩
theorem MSet.alloc {w : World} {b : Nat} {p : Int → Bool} (h : MSet w b p) (o : Obj) : MSet (w.alloc o) b p := h.below (below_one w o)
theorem MSet.congr {w : World} {b : Nat} {p q : Int → Bool} (h : MSet w b p) (e : ∀ m, p m = q m) : MSet w b q := by
  obtain ⟨n, D, hown, hp⟩ := h
  exact ⟨n, D, hown, fun m => (hp m).trans (e m)⟩
theorem MSet.made (w : World) : MSet (w.alloc (.map #[] 0)) w.heap.size fun _ => false := ⟨0, .map [], World.ownsMap_made _ _ _ _, fun _ => rfl⟩

/-- A key that reads as an int is one. -/
theorem key_int {v : Value} {l : Lit} (h : keyOf Try.prog 3 v = some l) : ∃ a : Int, l = .int .i64 a := by
  unfold keyOf at h
  rw [Try.underlying3] at h
  unfold mapKey at h
  rw [Try.underlying3] at h
  cases v <;> simp at h
  exact ⟨_, h.2.symm⟩

theorem owns_size {w : World} {b n : Nat} {D : DataW Unit} (h : w.ownsMap Try.prog 3 (plainElem Try.prog 4) b n D) : Maps.size D = 0 ↔ ∀ m : Int, Maps.has D (.int .i64 m) = false := by
  obtain ⟨es, clock, _, F, _, rfl⟩ := h
  have hp := WideShapes.sorted_perm (es.toList.map (rg Try.prog 3 (plainElem (H := Unit) Try.prog 4)))
  generalize hl : (es.toList.map (rg Try.prog 3 (plainElem (H := Unit) Try.prog 4))).foldr DataW.insert [] = l at hp
  constructor
  · intro h0 m
    have : l = [] := List.eq_nil_of_length_eq_zero h0
    subst this
    rfl
  · intro h0
    show l.length = 0
    cases l with
    | nil => rfl
    | cons x r =>
      have hx : x ∈ es.toList.map (rg Try.prog 3 (plainElem (H := Unit) Try.prog 4)) := hp.mem_iff.1 (by simp)
      obtain ⟨y, hy, rfl⟩ := List.mem_map.1 hx
      obtain ⟨z, hz⟩ := F.reads y hy
      have hk := rd_key hz
      rw [rg_of hz] at h0
      obtain ⟨a, ha⟩ := key_int hk
      have := h0 a
      rw [Maps.has_eq, List.any_cons, ha] at this
      rw [ha] at hk
      rw [WideAt.sameKey_self (keyedI.key hk)] at this
      simp at this

theorem MSet.len0 {w : World} {b : Nat} {p : Int → Bool} (h : MSet w b p) (hp : ∀ m, p m = false) (ty : TypeId) : (Builtin.len_ #[52] ty #[.map (some b)]).run Try.prog w = .ok (.int .i64 0) w := by
  obtain ⟨n, D, hown, hD⟩ := h
  have h0 := (owns_size hown).2 (fun m => (hD m).trans (hp m))
  have := hown.len Try.underlying52 ty
  rw [h0] at this
  exact this
theorem MSet.len1 {w : World} {b : Nat} {p : Int → Bool} (h : MSet w b p) (hp : ¬ ∀ m, p m = false) : ∃ N : Nat, ((N : Int) == 0) = false ∧ ∀ ty, (Builtin.len_ #[52] ty #[.map (some b)]).run Try.prog w = .ok (.int .i64 N) w := by
  obtain ⟨n, D, hown, hD⟩ := h
  refine ⟨Maps.size D, ?_, fun ty => hown.len Try.underlying52 ty⟩
  have h0 : Maps.size D ≠ 0 := fun e => hp (fun m => (hD m).symm.trans ((owns_size hown).1 e m))
  simp
  omega

/-- 'delete(m, k)' at the operation. -/
theorem wpList_mdel {w : World} {ops : Array Oper} {rest : List Oper} {o : Oper} {a : Act} {Q : Exit → Act → World → Prop} (hg : o.guard = none) (m x : Operand)
    (hop : o.op = Op.call { callee := Callee.builtin Builtin.delete, args := #[m, x], argTypes := #[52, 3] }) {b : Nat} {p : Int → Bool} (h : MSet w b p) (hm : a.eval m = .map (some b)) (k : Int) (hx : a.eval x = .int .i64 k) (hk : (Lit.int .i64 k).wf = true)
    (hK : ∀ w', MSet w' b (fun j => p j && !(j == k)) → w.grownBy w' (some b) → wpList Try.prog ops Q rest (a.put o.dst (.tuple #[])) w') :
    wpList Try.prog ops Q (o :: rest) a w := by
  obtain ⟨n, D, hown, hD⟩ := h
  refine wpList_delete_own w hg m x 52 3 hop 4 keyedI Try.underlying52 _ b n D hm hown _ _ hx (keyOf_int_mk Try.underlying3 hk) ?_
  intro w1 hown1 hturn
  refine hK w1 ⟨n, _, hown1, fun j => ?_⟩ hturn.grown
  by_cases hj : j = k
  · subst hj
    rw [has_del_same]
    simp
  · rw [has_del_other (by simpa using hj), hD]
    have : (j == k) = false := by simpa using hj
    show p j = (p j && !(j == k))
    rw [this, Bool.not_false, Bool.and_true]

/-- 'clear(m)' at the operation. -/
theorem wpList_mclear {w : World} {ops : Array Oper} {rest : List Oper} {o : Oper} {a : Act} {Q : Exit → Act → World → Prop} (hg : o.guard = none) (m : Operand)
    (hop : o.op = Op.call { callee := Callee.builtin Builtin.clear, args := #[m], argTypes := #[52] }) {b : Nat} {p : Int → Bool} (h : MSet w b p) (hm : a.eval m = .map (some b))
    (hK : ∀ w', w'.ownsMap (H := Unit) Try.prog 3 (plainElem Try.prog 4) b 0 (.map []) → w.grownBy w' (some b) → wpList Try.prog ops Q rest (a.put o.dst (.tuple #[])) w') :
    wpList Try.prog ops Q (o :: rest) a w := by
  obtain ⟨n, D, hown, _⟩ := h
  obtain ⟨es, clock, hb, _⟩ := hown
  have hrun : (Builtin.clear_ #[52] o.type #[.map (some b)]).run Try.prog w = .ok (.tuple #[]) (ChangeMaps.setBlock w b (.map #[] clock)) := by
    simp [Builtin.clear_, run_underlying Try.underlying52, MapKept.run_getObj_map hb, MapKept.run_setObj_map _ hb, Result.andThen, ChangeMaps.setBlock]
  refine wpList_plain hg fun K' hK' => ?_
  unfold Oper.wp
  simp [execOp, hop, resolve, invoke, builtin, hm, hrun, Result.andThen]
  refine hK' _ _ (hK _ ⟨#[], clock, heap_setBlock_same hb _, ⟨by simp, MapKept.stamped_empty clock, by simp⟩, Nat.le_refl _, rfl⟩ ?_)
  exact ⟨rfl, rfl, rfl, by simp [ChangeMaps.setBlock], fun i _ hi => heap_setBlock_other hb _ (fun e => hi (by rw [e]))⟩

theorem fr_grown {w w' : World} {b : Nat} (h : w.grownBy w' (some b)) : Fr [b] w w' := ⟨h.os, h.tape, h.output, h.size, fun k hk hn => h.block k hk (fun e => hn (by simpa using e))⟩

/-- What begin's loop keeps. -/
def BeginR (w : World) (b : Nat) (n : Int) (i : Value) (wr : World) : Prop :=
  ∃ (k : Nat) (D : DataW Unit), (k : Int) ≤ max n 0 ∧ i = .int .i64 k ∧ wr.ownsMap Try.prog 3 (plainElem Try.prog 4) b k D ∧ (∀ m : Int, Maps.has D (.int .i64 m) = (decide (0 ≤ m) && decide (m < k))) ∧ Fr [b] w wr

theorem begin_step {w : World} {b k : Nat} {D : DataW Unit} (h : w.ownsMap Try.prog 3 (plainElem Try.prog 4) b k D) (hD : ∀ m : Int, Maps.has D (.int .i64 m) = (decide (0 ≤ m) && decide (m < k))) :
    ∀ m : Int, Maps.has (D.put (.int .i64 (k : Int)) (.lit (.bool true))) (.int .i64 m) = (decide (0 ≤ m) && decide (m < ((k + 1 : Nat) : Int))) := by
  intro m
  by_cases hm : m = k
  · subst hm
    rw [has_put_same h.isMap (by simp [WideAt.IsKeyLit])]
    simp
    omega
  · rw [has_put_other (by simpa using hm), hD]
    congr 1
    by_cases h1 : m < k
    · rw [decide_eq_true h1, decide_eq_true (by omega)]
    · rw [decide_eq_false h1, decide_eq_false (by omega)]

theorem begin_any {w : World} {b : Nat} {p : Int → Bool} (h : MSet w b p) (n : Int) (hn : n ≤ 1000000) :
    Calls Try.prog 33 #[.map (some b), .int .i64 n] w fun e w' => e = .returned (.tuple #[]) ∧ MSet w' b (fun m => decide (0 ≤ m) && decide (m < n)) ∧ Fr [b] w w' := by
  go_enter Try.func33, Try.ntmps33
  go_wp2_with (refine wpList_mclear rfl _ rfl h rfl ?_; intro w1 hown1 hg1; have F1 := fr_grown hg1; clear hg1 h)
  go_loopw [4, 7] (fun _ i wr => BeginR w b n i wr) (fun _ i _ => (n - intOf i).toNat)
  case atStart => exact ⟨0, _, by omega, rfl, hown1, fun m => by
    have : Maps.has (H := Unit) (.map []) (.int .i64 m) = false := rfl
    rw [this]
    by_cases h0 : 0 ≤ m
    · rw [decide_eq_false (show ¬ m < ((0 : Nat) : Int) by omega), Bool.and_false]
    · rw [decide_eq_false h0, Bool.false_and], F1⟩
  case round =>
    obtain ⟨k, D, hk, rfl, hown, hD, hf⟩ := hrel
    have HD := Lib.hid hD
    have HF := Lib.hid hf
    clear hD hf hown1 F1
    by_cases hlt : (k : Int) < n
    · go_wp2_with
        (at_mapUpdate
         refine wpList_mapUpdate_own _ rfl _ _ _ 52 rfl 3 4 keyedI Try.underlying52 _ b k D rfl hown (by unfold maxLen; omega) _ _ _ rfl rfl (keyOf_int_mk Try.underlying3 (WalkArith.wf_i64 (by omega))) _ [] (plainElem_bool Try.underlying4 true) ?_
         intro w2 hown2 hg2
         have HN := Lib.hid (begin_step hown HD.out)
         have HF2 := Lib.hid (HF.out.trans (fr_grown hg2))
         clear hg2 hown)
      go_roundw
      case rel => exact ⟨k + 1, _, by omega, by go_num, hown2, HN.out, HF2.out⟩
      case measure => simp [intOf]; omega
    · have he : (k : Int) = max n 0 := by omega
      go_wp2
      go_end0
      refine ⟨rfl, ⟨k, D, hown, fun m => ?_⟩, HF.out⟩
      rw [HD.out m]
      show (decide (0 ≤ m) && decide (m < (k : Int))) = (decide (0 ≤ m) && decide (m < n))
      by_cases h0 : 0 ≤ m
      · congr 1
        by_cases h1 : m < n
        · rw [decide_eq_true h1, decide_eq_true (by omega)]
        · rw [decide_eq_false h1, decide_eq_false (by omega)]
      · rw [decide_eq_false h0, Bool.false_and, Bool.false_and]
end Go.Proofs.Ytpaacpcmijhcmaa
