/-
  What the library's functions want to find in the variables of their packages; their contracts in this form.
-/
import Derived.Test.YtcjiikaiobomeaaDoorShelf
import Derived.Test.YtcjiikaiobomeaaDoorEvMath
import Derived.Test.YtcjiikaiobomeaaDoorBel
import Derived.Lib.SmallJoins
import Derived.Lib.AppendStr
namespace Go.Proofs.YtcjiikaiobomeaaDoor
open Go Go.RowKit Go.Shelf Go.Proofs
set_option linter.unusedSimpArgs false

/-- The table's name, out of the row's list. -/
def nPow : String := (Rows.eventsValidRow.laid.getD 2 ("", .nil)).1
structure Lib0 (w : World) : Prop where
  ml : ∃ m : Int, w.cell? ⟨0, 0, none⟩ = some (.int .i64 m)
  sy : ∃ tp p, w.var? Tryd.prog "strconv.ErrSyntax" = some #[.iface tp p]
  ra : ∃ tp p, w.var? Tryd.prog "strconv.ErrRange" = some #[.iface tp p]
  tb : Lib.TabIs Tryd.prog w nPow .u64 Lib.pow10Tab
/-- .. in this world and in every one that differs from block B on. -/
def Libs (B : Nat) (w : World) : Prop := ∀ w', Below B w w' → Lib0 w'
theorem Libs.here {B : Nat} {w : World} (h : Libs B w) : Lib0 w := h w (Below.refl _ _)
theorem Libs.on {B : Nat} {w w1 : World} (h : Libs B w) (hb : Below B w w1) : Libs B w1 := fun w' h' => h w' (hb.trans h')
theorem Libs.up {B C : Nat} {w : World} (h : Libs B w) (hB : B ≤ C) : Libs C w := fun w' h' => h w' (h'.mono hB)
theorem Libs.drewN {B : Nat} {w : World} (h : Libs B w) (n : Nat) : Libs B (w.drewN n) := h.on ⟨rfl, rfl, rfl, Nat.le_refl _, fun _ _ => rfl⟩
theorem Libs.alloc {B : Nat} {w : World} (h : Libs B w) (hB : B ≤ w.heap.size) (o : Obj) : Libs B (w.alloc o) := h.on ((below_one w o).mono hB)

/-- The slice v is the call's own and holds the bytes l. -/
def OwnY (w : World) (base : Nat) (v : Value) (l : List UInt8) : Prop := w.ownsRow base 5 1 v l.length (Lib.byteCells l)
theorem OwnY.nil (w : World) (base : Nat) : OwnY w base (.slice none 0 0) [] := World.ownsRow_nil w base _ _
theorem OwnY.below {w w' : World} {base : Nat} {v : Value} {l : List UInt8} (h : OwnY w base v l) (hb : Below w.heap.size w w') : OwnY w' base v l := by
  refine ⟨h.1, ?_⟩
  rcases h.2 with h2 | ⟨g, cap, cur, rfl, h2, hg, rest⟩
  · exact .inl h2
  · exact .inr ⟨g, cap, cur, rfl, h2, (hb.block g (Array.getElem?_eq_some_iff.1 hg).1).trans hg, rest⟩
theorem OwnY.alloc {w : World} {base : Nat} {v : Value} {l : List UInt8} (h : OwnY w base v l) (o : Obj) : OwnY (w.alloc o) base v l := h.below (below_one w o)
theorem OwnY.lt {w : World} {base : Nat} {v : Value} {l : List UInt8} (h : OwnY w base v l) : ∀ k, v.ownBlock = some k → base ≤ k ∧ k < w.heap.size := World.ownsRow.lt h
theorem OwnY.kind {w : World} {base : Nat} {v : Value} {l : List UInt8} (h : OwnY w base v l) : ∀ g, v.ownBlock = some g → ∃ c fz, w.heap[g]? = some (.cells c 5 fz) := by
  intro g hg
  rcases h.2 with ⟨rfl, _⟩ | ⟨g', cap, cur, rfl, _, hgg, _⟩
  · simp [Value.ownBlock] at hg
  · simp [Value.ownBlock] at hg
    subst hg
    exact ⟨cur, _, hgg⟩
theorem OwnY.form {w : World} {B : Nat} {v : Value} {l : List UInt8} (h : OwnY w B v l) : ∃ a c, v = .slice a l.length c := by
  rcases h.2 with ⟨rfl, h2⟩ | ⟨g, cap, cur, rfl, _⟩
  · rw [h2]
    exact ⟨_, _, rfl⟩
  · exact ⟨_, _, rfl⟩
theorem below_appY {B : Nat} {w w' : World} {v : Value} {l : List UInt8} (hB : B ≤ w.heap.size) (h : OwnY w B v l) (hg : w.grownBy w' v.ownBlock) : Below B w w' :=
  ⟨hg.os, hg.tape, hg.output, hg.size, fun k hk => hg.block k (by omega) (fun e => by
    have := (h.lt k e.symm).1
    omega)⟩
theorem info_u8 : (Tryd.prog.info? 5).map (fun i => (i.zero, i.size, i.bytes)) = some (some (.int .u8 0), 1, 1) := by kernel_rfl
theorem one_cellY (w : World) (c : UInt8) : ∀ j u, (Lib.byteCells [c])[j]? = some u → (w.alloc (.cells #[.int .u8 (c.toNat : Int)] 5)).cell? ((⟨w.heap.size, 0, none⟩ : Addr).add j) = some u := by
  intro j u hu
  have hB := Blk.made w 5 #[.int .u8 (c.toNat : Int)]
  match j, hu with
  | 0, hu => exact (hB.at_ 0).trans hu
  | j + 1, hu => simp [Lib.byteCells] at hu
/-- An append of one byte. -/
theorem wpList_appY {w : World} {ops : Array Oper} {rest : List Oper} {o : Oper} {a : Act} {Q : Exit → Act → World → Prop} (hgd : o.guard = none) (s x : Operand)
    (ho : o.op = .call { callee := .builtin .append, args := #[s, x], argTypes := #[30, 30] })
    {base : Nat} {v : Value} {l : List UInt8} (hs : a.eval s = v) (hown : OwnY w base v l) {ad : Addr} {m c : Nat} {ns : List UInt8} (hx : a.eval x = .slice (some ad) m c) (hl : ns.length = m)
    (hnews : ∀ j u, (Lib.byteCells ns)[j]? = some u → w.cell? (ad.add j) = some u) (hn : l.length + m ≤ 100000000) (hb : base ≤ w.heap.size)
    (h : ∀ v' w', OwnY w' base v' (l ++ ns) → w.grownBy w' v.ownBlock → wpList Tryd.prog ops Q rest (a.put o.dst v') w') :
    wpList Tryd.prog ops Q (o :: rest) a w := by
  obtain ⟨i0, hi, hz0, hz1, hz2⟩ := info_parts info_u8
  refine wpList_append_own_at w hgd s x 30 ho base 5 i0 _ 1 1 Tryd.underlying30 hi hz0 hz1 hz2 rfl (by omega) v l.length (Lib.byteCells l) hs hown ad m c (Lib.byteCells ns) hx (by rw [Lib.byteCells_length, hl]; omega) hnews (Lib.byteCells_one ns) (by unfold maxLen; omega) (by omega) hb ?_
  intro v' w' h1 h2 _ _
  refine h v' w' ?_ h2
  unfold OwnY
  rw [Lib.byteCells_append, List.length_append, hl]
  exact h1
theorem strCells_eq (l : List UInt8) : Lib.strCells ⟨l.toArray⟩ = Lib.byteCells l := by
  simp [Lib.strCells, Lib.byteCells]
/-- An append of a string's bytes. -/
theorem wpList_appS {w : World} {ops : Array Oper} {rest : List Oper} {o : Oper} {a : Act} {Q : Exit → Act → World → Prop} (hgd : o.guard = none) (s x : Operand)
    (ho : o.op = .call { callee := .builtin .append, args := #[s, x], argTypes := #[30, 9] })
    {base : Nat} {v : Value} {l ns : List UInt8} (hs : a.eval s = v) (hown : OwnY w base v l) (hx : a.eval x = .string ⟨ns.toArray⟩) (hn : l.length + ns.length ≤ 100000000) (hb : base ≤ w.heap.size)
    (h : ∀ v' w', OwnY w' base v' (l ++ ns) → w.grownBy w' v.ownBlock → wpList Tryd.prog ops Q rest (a.put o.dst v') w') :
    wpList Tryd.prog ops Q (o :: rest) a w := by
  obtain ⟨i0, hi, hz0, hz1, hz2⟩ := info_parts info_u8
  have hsz : (⟨ns.toArray⟩ : ByteArray).size = ns.length := by simp [ByteArray.size]
  refine Lib.wpList_append_own_string w hgd s x 30 9 ho base 5 i0 Tryd.underlying30 Tryd.underlying9 hi hz0 hz1 hz2 v l.length (Lib.byteCells l) hs hown ⟨ns.toArray⟩ hx (by unfold maxLen; omega) (by omega) hb ?_
  intro v' w' h1 h2 _
  refine h v' w' ?_ h2
  unfold OwnY
  rw [Lib.byteCells_append, List.length_append, ← strCells_eq ns, ← hsz]
  exact h1

/-- The library's AppendInt, at base 10. -/
def Appended (B : Nat) (l : List UInt8) (w : World) (e : Ending) (w' : World) : Prop := ∃ v', e = .returned v' ∧ OwnY w' B v' l ∧ Below B w w' ∧ Lib.OthersKept 5 none w w'
theorem appInt_any {B : Nat} {w : World} {v : Value} {l : List UInt8} (hl : Libs B w) (hown : OwnY w B v l) (hB : B ≤ w.heap.size) (hn : l.length ≤ 100000000) (i : Int) (h0 : 0 ≤ i) (h1 : i ≤ 256) :
    Calls Tryd.prog 21 #[v, .int .i64 i, .int .i64 10] w (Appended B (l ++ Lib.itoa i) w) := by
  refine (Any.strconv_AppendInt_10 shInt B l.length i (by omega) (by omega) v (Lib.byteCells l) w hown hB (by omega) (fun w' h' => (hl w' h').tb)).mono ?_
  rintro e w' ⟨v', rfl, h2, h3, h4⟩
  refine ⟨v', rfl, ?_, h3, h4⟩
  unfold OwnY
  rw [List.length_append, Lib.byteCells_append]
  exact h2
/-- strings.Cut. -/
theorem cut_any {B : Nat} {w : World} (hl : Libs B w) (s sep : List UInt8) (hs : s.length < 4294967281) :
    Calls Tryd.prog 18 #[.string ⟨s.toArray⟩, .string ⟨sep.toArray⟩] w fun e w' => e = .returned (.tuple #[.string ⟨(Lib.cut s sep).1.toArray⟩, .string ⟨(Lib.cut s sep).2.1.toArray⟩, .bool (Lib.cut s sep).2.2]) ∧ ∃ n, w' = w.drewN n := by
  obtain ⟨m, hm⟩ := hl.here.ml
  exact Any.strings_Cut shCut ⟨s.toArray⟩ ⟨sep.toArray⟩ m w (by simpa [ByteArray.size] using hs) hm
/-- strconv.Atoi: a number, or an error. -/
theorem atoi_ok {w : World} (s : List UInt8) (hs : s.length < 4294967281) {v : Int} (h : Lib.atoiAll s = .ok v) :
    Calls Tryd.prog 27 #[.string ⟨s.toArray⟩] w fun e w' => e = .returned (.tuple #[.int .i64 v, .nilIface]) ∧ Below w.heap.size w w' := by
  refine (Any.strconv_Atoi_ok shAtoi ⟨s.toArray⟩ (by simp [ByteArray.size]; omega) v (by simpa using h) w).mono ?_
  rintro e w' ⟨rfl, rfl | ⟨t, rfl⟩⟩
  · exact ⟨rfl, Below.refl _ _⟩
  · exact ⟨rfl, Lib.bytesWorld_below w _ t⟩
def Failed (w : World) (e : Ending) (w' : World) : Prop := ∃ (x : Int) (t : TypeId) (N : Nat), e = .returned (.tuple #[.int .i64 x, .iface t (.pointer (some ⟨N, 0, none⟩))]) ∧ Below w.heap.size w w'
theorem atoi_bad {B : Nat} {w : World} (hl : Libs B w) (s : List UInt8) (hs : s.length < 4294967281) (h : ∀ v, Lib.atoiAll s ≠ .ok v) :
    Calls Tryd.prog 27 #[.string ⟨s.toArray⟩] w (Failed w) := by
  rcases hq : Lib.atoiAll s with v | _ | _
  · exact absurd hq (h v)
  · obtain ⟨tp, p, hv⟩ := hl.here.sy
    refine (Any.strconv_Atoi_syntax_var shAtoi ⟨s.toArray⟩ (by simp [ByteArray.size]; omega) (by simpa using hq) tp p w hv).mono ?_
    rintro e w' ⟨N, rfl, _, _, hb⟩
    exact ⟨_, _, N, rfl, hb⟩
  · obtain ⟨tp, p, hv⟩ := hl.here.ra
    refine (Any.strconv_Atoi_range_var shAtoi ⟨s.toArray⟩ (by simp [ByteArray.size]; omega) (by simpa using hq) tp p w hv).mono ?_
    rintro e w' ⟨N, rfl, _, _, hb⟩
    exact ⟨_, _, N, rfl, hb⟩
end Go.Proofs.YtcjiikaiobomeaaDoor
