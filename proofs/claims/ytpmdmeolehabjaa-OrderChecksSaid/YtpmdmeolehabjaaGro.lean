/-
  Slices whose elements are rows of k cells: what came in, what is the call's own, appends. No function and no type is named.
-/
import Derived.Test.YtpmdmeolehabjaaBel
namespace Go.Proofs.Ytpmdmeolehabjaa
open Go Go.RowKit
set_option linter.unusedSimpArgs false

/-- Rows of k cells each. -/
def RowsK (k : Nat) (R : List (List Value)) : Prop := ∀ r, r ∈ R → r.length = k ∧ ∀ u, u ∈ r → u.oneCell' = true
theorem RowsK.nil (k : Nat) : RowsK k [] := fun r hr => by cases hr
theorem RowsK.cons {k : Nat} {r : List Value} {R : List (List Value)} (h : RowsK k R) (hr : r.length = k ∧ ∀ u, u ∈ r → u.oneCell' = true) : RowsK k (r :: R) := fun x hx => by
  rcases List.mem_cons.1 hx with rfl | hx
  · exact hr
  · exact h x hx
theorem RowsK.append {k : Nat} {R Q : List (List Value)} (h : RowsK k R) (h' : RowsK k Q) : RowsK k (R ++ Q) := fun x hx => by
  rcases List.mem_append.1 hx with hx | hx
  · exact h x hx
  · exact h' x hx
theorem RowsK.len {k : Nat} {R : List (List Value)} (h : RowsK k R) : R.flatten.length = R.length * k := by
  induction R with
  | nil => simp
  | cons r R ih =>
    rw [List.flatten_cons, List.length_append, ih (fun x hx => h x (List.mem_cons_of_mem _ hx)), (h r (List.mem_cons_self ..)).1, List.length_cons, Nat.add_mul]
    omega
theorem RowsK.one {k : Nat} {R : List (List Value)} (h : RowsK k R) : ∀ u, u ∈ R.flatten → u.oneCell' = true := by
  intro u hu
  obtain ⟨r, hr, hu⟩ := List.mem_flatten.1 hu
  exact (h r hr).2 u hu
theorem RowsK.get {k : Nat} {R : List (List Value)} (h : RowsK k R) {i j : Nat} (hi : i < R.length) (hj : j < k) : R.flatten[i * k + j]? = (R.getD i [])[j]? := by
  induction R generalizing i with
  | nil => simp at hi
  | cons r R ih =>
    have hr := (h r (List.mem_cons_self ..)).1
    rw [List.flatten_cons]
    cases i with
    | zero =>
      rw [Nat.zero_mul, Nat.zero_add, List.getElem?_append_left (by omega)]
      rfl
    | succ i =>
      rw [List.getElem?_append_right (by rw [hr, Nat.add_mul]; omega), hr, show (i + 1) * k + j - k = i * k + j by rw [Nat.add_mul]; omega, ih (fun x hx => h x (List.mem_cons_of_mem _ hx)) (by simpa using hi)]
      rfl
/-- The slice at a reads as the rows R. -/
def InG (w : World) (k : Nat) (a : Option Addr) (R : List (List Value)) : Prop :=
  R.length ≤ maxLen ∧ RowsK k R ∧ ∀ i, i < R.length → ∃ x : Addr, a = some x ∧ x.block < w.heap.size ∧ ∀ j, j < k → w.cell? (x.add (i * k + j)) = (R.getD i [])[j]?
section
variable {w w' : World} {k : Nat} {a : Option Addr} {R : List (List Value)}
theorem InG.below (h : InG w k a R) (hb : Below w.heap.size w w') : InG w' k a R :=
  ⟨h.1, h.2.1, fun i hi => by
    obtain ⟨x, e, hx, hc⟩ := h.2.2 i hi
    exact ⟨x, e, Nat.lt_of_lt_of_le hx hb.size, fun j hj => (hb.cell (by rw [block_add]; exact hx)).trans (hc j hj)⟩⟩
theorem InG.nil (w : World) (k : Nat) (a : Option Addr) : InG w k a [] := ⟨by unfold maxLen; simp, RowsK.nil k, fun i hi => absurd hi (by simp)⟩
/-- The cells of an element, as the walk spells them. -/
theorem InG.at_ (h : InG w k a R) {i : Nat} (hi : i < R.length) (hk : 0 < k) : ∃ x : Addr, a = some x ∧ x.block < w.heap.size ∧ w.cell? (x.add (i * k)) = (R.getD i [])[0]? ∧ ∀ j, j + 1 < k → w.cell? ⟨(x.add (i * k)).block, (x.add (i * k)).off + (j + 1), none⟩ = (R.getD i [])[j + 1]? := by
  obtain ⟨x, e, hx, hc⟩ := h.2.2 i hi
  refine ⟨x, e, hx, hc 0 hk, fun j hj => ?_⟩
  have h1 := hc (j + 1) hj
  have hlen : (R.getD i []).length = k := by
    rw [List.getD_eq_getElem?_getD, List.getElem?_eq_getElem hi]
    exact (h.2.1 _ (List.getElem_mem hi)).1
  rw [List.getElem?_eq_getElem (by omega)] at h1 ⊢
  exact cell_field (i := i * k) (j := j) h1
end
/-- The slice v is the call's own (nil, or a row from block B on) and holds the rows R. -/
def OwnG (w : World) (B : Nat) (t : TypeId) (k : Nat) (v : Value) (R : List (List Value)) : Prop := RowsK k R ∧ w.ownsRow B t k v R.length R.flatten
section
variable {w w' : World} {B k : Nat} {t : TypeId} {v : Value} {R : List (List Value)}
theorem OwnG.nil (w : World) (B : Nat) (t : TypeId) (k : Nat) : OwnG w B t k (.slice none 0 0) [] := ⟨RowsK.nil k, World.ownsRow_nil w B _ _⟩
theorem OwnG.lt (h : OwnG w B t k v R) : ∀ b, v.ownBlock = some b → B ≤ b ∧ b < w.heap.size := World.ownsRow.lt h.2
theorem OwnG.same (h : OwnG w B t k v R) (e : ∀ b, v.ownBlock = some b → w'.heap[b]? = w.heap[b]?) : OwnG w' B t k v R := by
  refine ⟨h.1, h.2.1, ?_⟩
  rcases h.2.2 with h2 | ⟨g, cap, cur, rfl, h2, hg, rest⟩
  · exact .inl h2
  · exact .inr ⟨g, cap, cur, rfl, h2, (e g rfl).trans hg, rest⟩
theorem OwnG.below (h : OwnG w B t k v R) (hb : Below w.heap.size w w') : OwnG w' B t k v R := h.same fun b hb' => hb.block b (h.lt b hb').2
theorem OwnG.mono {B' : Nat} (h : OwnG w B t k v R) (hb : B' ≤ B) : OwnG w B' t k v R := by
  refine ⟨h.1, h.2.1, ?_⟩
  rcases h.2.2 with h2 | ⟨g, cap, cur, rfl, h2, rest⟩
  · exact .inl h2
  · exact .inr ⟨g, cap, cur, rfl, Nat.le_trans hb h2, rest⟩
theorem OwnG.form (h : OwnG w B t k v R) : ∃ a c, v = .slice a R.length c ∧ R.length ≤ c := by
  rcases h.2.2 with ⟨rfl, h2⟩ | ⟨g, cap, cur, rfl, _, _, hn, _⟩
  · rw [h2]
    exact ⟨_, _, rfl, Nat.le_refl _⟩
  · exact ⟨_, _, rfl, hn⟩
/-- Its block, if it has elements. -/
theorem OwnG.blk (h : OwnG w B t k v R) (hR : R ≠ []) : ∃ g cap cur, v = .slice (some ⟨g, 0, none⟩) R.length cap ∧ B ≤ g ∧ Blk w g t cur ∧ R.length ≤ cap ∧ cap ≤ maxLen ∧ cur.size = cap * k ∧ ∀ i j, i < R.length → j < k → cur[i * k + j]? = (R.getD i [])[j]? := by
  rcases h.2.2 with ⟨rfl, h2⟩ | ⟨g, cap, cur, rfl, hb, hg, hn, hm, hs, hc⟩
  · exact absurd (List.eq_nil_of_length_eq_zero h2) hR
  · refine ⟨g, cap, cur, rfl, hb, hg, hn, hm, hs, fun i j hi hj => ?_⟩
    have hl : i * k + j < R.length * k := by
      have : (i + 1) * k ≤ R.length * k := Nat.mul_le_mul_right k hi
      rw [Nat.add_mul] at this
      omega
    rw [← h.1.get hi hj, ← hc, List.getElem?_take, if_pos hl, Array.getElem?_toList]
theorem OwnG.ty (h : OwnG w B t k v R) : ∀ b, v.ownBlock = some b → ∃ cur, Blk w b t cur := by
  intro b hb
  rcases h.2.2 with ⟨rfl, _⟩ | ⟨g, cap, cur, rfl, _, hg, _⟩
  · cases hb
  · simp only [Value.ownBlock, Option.some.injEq] at hb
    subst hb
    exact ⟨cur, hg⟩
theorem OwnG.inG (h : OwnG w B t k v R) : ∃ a c, v = .slice a R.length c ∧ R.length ≤ c ∧ InG w k a R := by
  by_cases hR : R = []
  · subst hR
    obtain ⟨a, c, e, hc⟩ := h.form
    exact ⟨a, c, e, hc, InG.nil _ _ _⟩
  · obtain ⟨g, cap, cur, e, _, hg, hn, hm, _, hc⟩ := h.blk hR
    refine ⟨_, _, e, hn, Nat.le_trans hn hm, h.1, fun i hi => ⟨_, rfl, hg.lt, fun j hj => ?_⟩⟩
    have ea : (⟨g, 0, none⟩ : Addr).add (i * k + j) = ⟨g, i * k + j, none⟩ := by
      unfold Addr.add
      split
      · rename_i h0
        rw [h0]
      · simp
    rw [ea, hg.at_, hc i j hi hj]
end
theorem info_partsG {P : Program} {e : TypeId} {z : Value} {k b : Nat} (h : (P.info? e).map (fun i => (i.zero, i.size, i.bytes)) = some (some z, k, b)) : ∃ i0, P.info? e = some i0 ∧ i0.zero = some z ∧ i0.size = k ∧ i0.bytes = b := by
  cases hi : P.info? e with
  | none => rw [hi] at h; simp at h
  | some i0 =>
    rw [hi] at h
    simp only [Option.map_some, Option.some.injEq, Prod.mk.injEq] at h
    exact ⟨i0, rfl, h.1, h.2.1, h.2.2⟩
/-- One row more. -/
theorem wpList_appG {w : World} {ops : Array Oper} {rest : List Oper} {o : Oper} {a : Act} {Q : Exit → Act → World → Prop} {ts t : TypeId} {z : Value} {k b : Nat} (hinfo : (Try.prog.info? t).map (fun i => (i.zero, i.size, i.bytes)) = some (some z, k, b))
    (hz : z.cells.size = k) (hk : 0 < k) (hb1 : b ≤ 1000) (hu : Try.prog.underlying ts = some (.slice t)) (hgd : o.guard = none) (s x : Operand)
    (ho : o.op = .call { callee := .builtin .append, args := #[s, x], argTypes := #[ts, ts] })
    {base : Nat} {v : Value} {R : List (List Value)} (hs : a.eval s = v) (hown : OwnG w base t k v R) {ad : Addr} {c : Nat} {r : List Value} (hx : a.eval x = .slice (some ad) 1 c) (hr : r.length = k ∧ ∀ u, u ∈ r → u.oneCell' = true) (hc : ∀ j u, r[j]? = some u → w.cell? (ad.add j) = some u)
    (hn : R.length + 1 ≤ 1000000) (hb : base ≤ w.heap.size)
    (h : ∀ v' w', OwnG w' base t k v' (R ++ [r]) → w.grownBy w' v.ownBlock → (v'.ownBlock = v.ownBlock ∨ v'.ownBlock = some w.heap.size) → wpList Try.prog ops Q rest (a.put o.dst v') w') :
    wpList Try.prog ops Q (o :: rest) a w := by
  obtain ⟨i0, hi, hz0, hz1, hz2⟩ := info_partsG hinfo
  refine wpList_append_own_at w hgd s x ts ho base t i0 _ k b hu hi hz0 hz1 hz2 hz hk v R.length R.flatten hs hown.2 ad 1 c r hx (by rw [hr.1]; omega) hc hr.2 (by unfold maxLen; omega) ?_ hb ?_
  · have : (R.length + 1) * b ≤ 1000000 * 1000 := Nat.mul_le_mul hn hb1
    omega
  intro v' w' h1 h2 _ h4
  refine h v' w' ⟨hown.1.append (RowsK.nil k |>.cons hr), ?_⟩ h2 h4
  rw [List.flatten_append, List.length_append]
  simpa using h1
/-- A row in a block of its own. -/
theorem made_row1 {w : World} {g : Nat} {t : TypeId} {r : List Value} (h : Blk w g t r.toArray) : ∀ j u, r[j]? = some u → w.cell? ((⟨g, 0, none⟩ : Addr).add j) = some u := by
  intro j u hu
  have ea : (⟨g, 0, none⟩ : Addr).add j = ⟨g, j, none⟩ := by
    unfold Addr.add
    split
    · rename_i h0
      rw [h0]
    · simp
  rw [ea, h.at_, List.getElem?_toArray]
  exact hu
/-- What an append leaves: the call began in w0. -/
theorem below_appG {w0 w w' : World} {t : TypeId} {k : Nat} {v : Value} {R : List (List Value)} (hb : Below w0.heap.size w0 w) (h : OwnG w w0.heap.size t k v R) (hg : w.grownBy w' v.ownBlock) : Below w0.heap.size w0 w' :=
  ⟨hg.os.trans hb.os, hg.tape.trans hb.tape, hg.output.trans hb.output, Nat.le_trans hb.size hg.size, fun b hb' => (hg.block b (Nat.lt_of_lt_of_le hb' hb.size) (fun e => by
    have := (h.lt b e.symm).1
    omega)).trans (hb.block b hb')⟩
end Go.Proofs.Ytpmdmeolehabjaa
