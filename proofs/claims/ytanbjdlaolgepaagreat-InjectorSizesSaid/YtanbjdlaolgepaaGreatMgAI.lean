/-
  The reference's engine: its block and its machines, each with one frame. No function is named.
  A new memory: how many cells, its state, its row. (Names no type but uint64.)
  The reference's New of a memory. (Taken out of XMemCallsB and XMemCallsD.)
  The layout's cells as plain numbers. No function and no type is named.
  The reference's layout: its cells as plain numbers, and the contracts of its functions.
  The reference's Cells.
-/
import Derived.Test.YtanbjdlaolgepaaGreatMgAA
import Derived.Test.YtanbjdlaolgepaaGreatMgAH
import Derived.Laws.StructEq
import Derived.Deep.OwnRows
import Derived.Test.YtanbjdlaolgepaaGreatMgAB
import Derived.Shelf.Abstract
import Derived.Outline
import Derived.Below
import Derived.Maps.AppendAt
import Derived.OwnWalk
import Derived.WalkSpells
import Derived.WalkLawsBesides
import Derived.Lib.Hide
import Derived.IntWalk
import Derived.BigQuiet
import Derived.Deep.CutRange
import Derived.Deep.RegionHeld3
namespace Go.Proofs.YtanbjdlaolgepaaGreat
open Go Go.RowKit
set_option linter.unusedSimpArgs false
set_option linter.unusedVariables false

/-- The cells of an engine that has performed nothing. -/
abbrev engcells (q : Nat) (mv : Value) : List Value := [.pointer (some ⟨q, 0, none⟩), mv, .int .i64 0, .slice none 0 0, .int .i64 0, .int .i64 0, .int .u64 0, .int .u64 0]
abbrev ptrR (y : Nat) : List Value := [.pointer (some ⟨y, 0, none⟩)]
abbrev zfra : Fra := fra1 0 0 0 0 0 0
/-- Block x is an engine with the environment q and machines at ys, each with one frame. -/
structure EngP (w : World) (B x q : Nat) (mv : Value) (ys : List (Nat × Nat × Nat)) (fs : List Fra) : Prop where
  blk : Blk w x 82 (engcells q mv).toArray
  own : OwnG w B 59 1 mv (ys.map fun y => ptrR y.1)
  len : ys.length = fs.length
  mac : ∀ i, i < fs.length → Mach1 B w (ys.getD i (0, 0, 0)).1 (ys.getD i (0, 0, 0)).2.1 (ys.getD i (0, 0, 0)).2.2 [] (fs.getD i zfra)
  nd1 : (ys.map (·.1)).Nodup
  nd2 : (ys.map (·.2.1)).Nodup
theorem Mach1.same {B : Nat} {w w' : World} {m g cap : Nat} {post : List Value} {f : Fra} (h : Mach1 B w m g cap post f) (e1 : w'.heap[m]? = w.heap[m]?) (e2 : w'.heap[g]? = w.heap[g]?) : Mach1 B w' m g cap post f :=
  ⟨h.blk.of_same e1, ⟨h.fr.blk.of_same e2, h.fr.ho⟩, h.bm, h.bg, h.hc⟩
section
variable {w w' : World} {B x q : Nat} {mv : Value} {ys : List (Nat × Nat × Nat)} {fs : List Fra}
theorem EngP.below (h : EngP w B x q mv ys fs) (hb : Below w.heap.size w w') : EngP w' B x q mv ys fs :=
  ⟨h.blk.below hb, h.own.below hb, h.len, fun i hi => (h.mac i hi).same (hb.block _ (h.mac i hi).blk.lt) (hb.block _ (h.mac i hi).fr.blk.lt), h.nd1, h.nd2⟩
theorem EngP.rows (h : EngP w B x q mv ys fs) : (ys.map fun y => ptrR y.1).length = fs.length := by rw [List.length_map]; exact h.len
/-- The list of machines has grown by one, and is stored. -/
theorem EngP.more (h : EngP w B x q mv ys fs) {v' : Value} {y g cap : Nat} {f : Fra} (hown : OwnG w' B 59 1 v' ((ys.map fun y => ptrR y.1) ++ [ptrR y])) (hg : w.grownBy w' mv.ownBlock) (hm : Mach1 B w y g cap [] f) (h1 : ∀ i, i < ys.length → (ys.getD i (0, 0, 0)).1 ≠ y) (h2 : ∀ i, i < ys.length → (ys.getD i (0, 0, 0)).2.1 ≠ g) :
    EngP (w'.setCell ⟨x, 1, none⟩ v') B x q v' (ys ++ [(y, g, cap)]) (fs ++ [f]) ∧ (w'.cell? ⟨x, 1, none⟩ = some mv ∧ w'.frozen? ⟨x, 1, none⟩ = false) ∧ Fr (x :: mv.ownBlock.toList) w (w'.setCell ⟨x, 1, none⟩ v') := by
  have hrow : ∀ {k : Nat} {t : TypeId} {cs : Array Value}, Blk w k t cs → t ≠ 59 → w'.heap[k]? = w.heap[k]? := fun {k t cs} hk ht => hg.block k hk.lt (fun e => row_apart h.own.2 hk (fun e' => ht e'.symm) k e.symm rfl)
  have hb0 := h.blk.of_same (hrow h.blk (by decide))
  have hset : ∀ k, k ≠ x → (w'.setCell ⟨x, 1, none⟩ v').heap[k]? = w'.heap[k]? := fun k hk => Below.heap_setCell w' ⟨x, 1, none⟩ v' k hk
  have hall : ∀ {k : Nat} {t : TypeId} {cs : Array Value}, Blk w k t cs → t ≠ 59 → t ≠ 82 → (w'.setCell ⟨x, 1, none⟩ v').heap[k]? = w.heap[k]? := fun {k t cs} hk h1 h2 => (hset k (hk.apart h.blk h2)).trans (hrow hk h1)
  have hmac : ∀ {y g cap : Nat} {f : Fra}, Mach1 B w y g cap [] f → Mach1 B (w'.setCell ⟨x, 1, none⟩ v') y g cap [] f := fun {y g cap f} hm => hm.same (hall hm.blk (by decide) (by decide)) (hall hm.fr.blk (by decide) (by decide))
  have hfr1 : Fr mv.ownBlock.toList w w' := ⟨hg.os, hg.tape, hg.output, hg.size, fun k hk hn => hg.block k hk (fun e => hn (by simp [← e]))⟩
  have hfr2 : Fr (x :: mv.ownBlock.toList) w (w'.setCell ⟨x, 1, none⟩ v') := (hfr1.mono (fun k hk => List.mem_cons_of_mem _ hk)).setCell (.inl (by simp)) v'
  have hp := hb0.put 1 v'
  have hlen := h.len
  have hD : ∀ {α : Type} (l : List α) (z a : α) (i : Nat), i < l.length → (l ++ [a]).getD i z = l.getD i z := fun l z a i hi => by
    rw [List.getD_eq_getElem?_getD, List.getD_eq_getElem?_getD, List.getElem?_append_left hi]
  have hE : ∀ {α : Type} (l : List α) (z a : α), (l ++ [a]).getD l.length z = a := fun l z a => by
    rw [List.getD_eq_getElem?_getD, List.getElem?_append_right (Nat.le_refl _), Nat.sub_self]
    rfl
  have hnd : ∀ (pr : Nat × Nat × Nat → Nat) (a : Nat × Nat × Nat), (ys.map pr).Nodup → (∀ i, i < ys.length → pr (ys.getD i (0, 0, 0)) ≠ pr a) → ((ys ++ [a]).map pr).Nodup := by
    intro pr a hn hne
    rw [List.map_append, List.nodup_append]
    refine ⟨hn, by simp, ?_⟩
    intro u hu z hz
    simp only [List.map_cons, List.map_nil, List.mem_cons, List.not_mem_nil, or_false] at hz
    subst hz
    obtain ⟨t, ht, rfl⟩ := List.mem_map.1 hu
    obtain ⟨i, hi, rfl⟩ := List.getElem_of_mem ht
    have := hne i hi
    rw [List.getD_eq_getElem?_getD, List.getElem?_eq_getElem hi] at this
    exact this
  refine ⟨⟨hp, ?_, by simp [hlen], fun i hi => ?_, hnd (·.1) (y, g, cap) h.nd1 h1, hnd (·.2.1) (y, g, cap) h.nd2 h2⟩, ⟨hb0.at_ 1, hb0.free 1⟩, hfr2⟩
  · rw [List.map_append]
    exact hown.same (fun b hb => hset b (fun e => by
      subst e
      obtain ⟨cur, hc⟩ := hown.ty b hb
      exact absurd (ty_at hc hb0) (by decide)))
  · by_cases hil : i < fs.length
    · rw [hD ys _ _ i (by omega), hD fs _ _ i hil]
      exact hmac (h.mac i hil)
    · obtain rfl : i = fs.length := by simp at hi; omega
      rw [hE fs, ← hlen, hE ys]
      exact hmac hm
end
/-- One machine more, as one step of a region that draws its order. -/
theorem wp_appP {w : World} {o : Oper} {a : Act} {K : Act → World → Prop} {Q : Exit → Act → World → Prop} (s x : Operand)
    (ho : o.op = .call { callee := .builtin .append, args := #[s, x], argTypes := #[80, 80] })
    {base : Nat} {v : Value} {R : List (List Value)} (hs : a.eval s = v) (hown : OwnG w base 59 1 v R) {ad : Addr} {c y : Nat} (hx : a.eval x = .slice (some ad) 1 c) (hc : ∀ j u, (ptrR y)[j]? = some u → w.cell? (ad.add j) = some u) (hn : R.length + 1 ≤ 1000000) (hb : base ≤ w.heap.size)
    (h : ∀ v' w', OwnG w' base 59 1 v' (R ++ [ptrR y]) → w.grownBy w' v.ownBlock → K (a.put o.dst v') w') : Oper.wp Tryz.prog o a w K Q := by
  have hinfo : (Tryz.prog.info? 59).map (fun i => (i.zero, i.size, i.bytes)) = some (some (.pointer none), 1, 8) := by kernel_rfl
  obtain ⟨i0, hi, hz0, hz1, hz2⟩ := info_partsG hinfo
  refine wp_append_own w s x 80 ho base 59 i0 _ 1 8 Tryz.underlying80 hi hz0 hz1 hz2 rfl (by omega) v R.length R.flatten hs hown.2 ad 1 c (ptrR y) hx rfl hc (by
    intro u hu
    simp only [List.mem_cons, List.not_mem_nil, or_false] at hu
    subst hu
    rfl) (by unfold maxLen; omega) (by omega) hb ?_
  intro v' w' g1 g2 _
  refine h v' w' ⟨hown.1.append (RowsK.nil 1 |>.cons ⟨rfl, fun u hu => ?_⟩), ?_⟩ g2
  · simp only [List.mem_cons, List.not_mem_nil, or_false] at hu
    subst hu
    rfl
  · rw [List.flatten_append, List.length_append]
    simpa using g1
end Go.Proofs.YtanbjdlaolgepaaGreat

namespace Go.Proofs.YtanbjdlaolgepaaGreat
open Go Go.RowKit

/-- How many cells New makes. -/
def sizeS (c : Int) : Nat := if c ≤ 0 then 0 else if c ≤ 131072 then c.toNat else 131072
/-- A new memory of n cells. -/
def St.new (n : Nat) : St := ⟨List.replicate n 0, 0, 0, 0, 0, 0⟩

theorem made_row (w : World) (n : Nat) (hn : n ≤ 131072) : Row (w.alloc (.cells (madeCells #[.int .u64 0] n) 46)) w.heap.size n n (List.replicate n 0) := by
  refine ⟨by simp, Nat.le_refl _, by unfold maxLen; omega, _, Blk.made _ _ _, by simp [madeCells], ?_⟩
  rw [List.take_of_length_le (by simp [madeCells])]
  simp [madeCells]
  apply List.ext_getElem
  · simp
  · intro i h1 h2
    simp [Nat.mod_one]

theorem info_u64 : (Tryz.prog.info? 46).map (fun i => (i.zero, i.size, i.bytes)) = some (some (.int .u64 0), 1, 8) := by kernel_rfl
end Go.Proofs.YtanbjdlaolgepaaGreat

namespace Go.Proofs.YtanbjdlaolgepaaGreat
open Go Go.RowKit Go.Shelf
set_option maxRecDepth 100000

/-- What the reference's New gives: a memory by value. -/
def RNew (w : World) (n : Nat) (e : Ending) (w' : World) : Prop :=
  e = .returned (.agg #[.slice (some ⟨w.heap.size + 1, 0, none⟩) n n, .int .i64 0, .int .i64 0, .int .u64 0, .int .u64 0, .int .i64 0]) ∧ Row w' (w.heap.size + 1) n n (List.replicate n 0) ∧ Below w.heap.size w w'

theorem rnew_end (w : World) (n : Nat) (hn : n ≤ 131072) (o : Obj) :
    RNew w n (.returned (.agg #[.slice (some ⟨w.heap.size + 1, 0, none⟩) n n, .int .i64 0, .int .i64 0, .int .u64 0, .int .u64 0, .int .i64 0])) ((w.alloc o).alloc (.cells (madeCells #[.int .u64 0] n) 46)) := by
  refine ⟨rfl, ?_, ((Below.refl _ _).alloc (Nat.le_refl _) _).alloc (by simp) _⟩
  have := made_row (w.alloc o) n hn
  simpa using this

theorem rnew_any (c : Int) (w : World) : Calls Tryz.prog 39 #[.int .i64 c] w (RNew w (sizeS c)) := by
  have hmk := fun (n : Nat) (hn : n ≤ 131072) (W : World) => run_make_row' (P := Tryz.prog) 22 46 (.int .u64 0) 8 Tryz.underlying22 info_u64 rfl .i64 .i64 n (by omega) (by omega) W
  have HE := Lib.hid (rnew_end w)
  by_cases h1 : c ≤ 0
  · have e : sizeS c = 0 := by unfold sizeS; rw [if_pos (by omega)]
    rw [e]
    clear e
    have hk := hmk 0 (by omega)
    rw [show ((0 : Nat) : Int) = 0 from rfl] at hk
    clear hmk
    have m1 : min c 131072 = c := by omega
    have m2 : max 0 c = 0 := by omega
    go_enter Tryz.func39, Tryz.ntmps39
    go_wp2
    exact bodyPost_ret (v := .agg #[.slice (some ⟨w.heap.size + 1, 0, none⟩) 0 0, .int .i64 0, .int .i64 0, .int .u64 0, .int .u64 0, .int .i64 0]) (by simp [results, Tryz.results39, go_sem]) rfl (HE.out 0 (by omega) _)
  · by_cases h2 : c ≤ 131072
    · obtain ⟨n, rfl⟩ : ∃ n : Nat, c = (n : Int) := ⟨c.toNat, by omega⟩
      have e : sizeS n = n := by unfold sizeS; rw [if_neg h1, if_pos h2]; omega
      rw [e]
      clear e
      have hk := hmk n (by omega)
      clear hmk
      have m1 : min (n : Int) 131072 = (n : Int) := by omega
      have m2 : max 0 (n : Int) = (n : Int) := by omega
      go_enter Tryz.func39, Tryz.ntmps39
      go_wp2
      exact bodyPost_ret (v := .agg #[.slice (some ⟨w.heap.size + 1, 0, none⟩) n n, .int .i64 0, .int .i64 0, .int .u64 0, .int .u64 0, .int .i64 0]) (by simp [results, Tryz.results39, go_sem]) rfl (HE.out n (by omega) _)
    · have e : sizeS c = 131072 := by unfold sizeS; rw [if_neg h1, if_neg h2]
      rw [e]
      clear e
      have hk := hmk 131072 (by omega)
      rw [show ((131072 : Nat) : Int) = 131072 from rfl] at hk
      clear hmk
      have m1 : min c 131072 = 131072 := by omega
      have m2 : max (0 : Int) 131072 = 131072 := by omega
      go_enter Tryz.func39, Tryz.ntmps39
      go_wp2
      exact bodyPost_ret (v := .agg #[.slice (some ⟨w.heap.size + 1, 0, none⟩) 131072 131072, .int .i64 0, .int .i64 0, .int .u64 0, .int .u64 0, .int .i64 0]) (by simp [results, Tryz.results39, go_sem]) rfl (HE.out 131072 (by omega) _)
end Go.Proofs.YtanbjdlaolgepaaGreat

namespace Go.Proofs.YtanbjdlaolgepaaGreat
open Go

/-- The numbers of a configuration are in their ranges. -/
structure CfgIn (c : Cfg) : Prop where
  wo : 1 ≤ c.wo ∧ c.wo ≤ 16
  le : 1 ≤ c.le ∧ c.le ≤ 64
  cl : 1 ≤ c.cl ∧ c.cl ≤ 8
  ta : 1 ≤ c.ta ∧ c.ta ≤ 256
  de : 1 ≤ c.de ∧ c.de ≤ 64
  he : 1 ≤ c.he ∧ c.he ≤ 64

def ixs (first i n size : Int) : Int := if i < 0 ∨ n ≤ i then -1 else first + i * size
def rSlot (c : Cfg) (i : Int) : Int := ixs 4 i c.he 1
def rDeques (c : Cfg) : Int := 4 + c.he + c.cl + 2 * c.wo
/-- The cells of all deques. -/
def rAll (c : Cfg) : Int := c.wo * c.le * (2 + c.de)
/-- There is such a deque. -/
def qIn (c : Cfg) (w l : Int) : Prop := 0 ≤ w ∧ w < c.wo ∧ 0 ≤ l ∧ l < c.le
instance (c : Cfg) (w l : Int) : Decidable (qIn c w l) := by unfold qIn; infer_instance
def rCells (c : Cfg) : Int := rDeques c + rAll c + 5 * c.ta

theorem mul_in {a b A B : Int} (h0 : 0 ≤ a) (h1 : a ≤ A) (h2 : 0 ≤ b) (h3 : b ≤ B) : 0 ≤ a * b ∧ a * b ≤ A * B :=
  ⟨Int.mul_nonneg h0 h2, Int.mul_le_mul h1 h3 h2 (Int.le_trans h0 h1)⟩
theorem CfgIn.wl {c : Cfg} (h : CfgIn c) : 1 ≤ c.wo * c.le ∧ c.wo * c.le ≤ 1024 := by
  have h1 := h.wo
  have h2 := h.le
  have h3 := mul_in (a := c.wo - 1) (b := c.le - 1) (by omega) (Int.le_refl _) (by omega) (Int.le_refl _)
  have h4 : (c.wo - 1) * (c.le - 1) = c.wo * c.le - c.wo - c.le + 1 := by
    rw [Int.sub_mul, Int.mul_sub]; omega
  have := (mul_in (a := c.wo) (b := c.le) (by omega) h1.2 (by omega) h2.2).2
  omega
theorem CfgIn.all {c : Cfg} (h : CfgIn c) : 0 ≤ rAll c ∧ rAll c ≤ 67584 := by
  have h1 := h.wl
  have h2 := h.de
  exact mul_in (by omega) h1.2 (by omega) (by omega : 2 + c.de ≤ 66)
theorem CfgIn.deques {c : Cfg} (h : CfgIn c) : 0 ≤ rDeques c ∧ rDeques c ≤ 200 := by
  have h1 := h.he
  have h2 := h.cl
  have h3 := h.wo
  unfold rDeques
  omega
theorem CfgIn.cells {c : Cfg} (h : CfgIn c) : 5 ≤ rCells c ∧ rCells c ≤ 70000 := by
  have h1 := h.all
  have h2 := h.he
  have h3 := h.cl
  have h4 := h.wo
  have h5 := h.ta
  unfold rCells rDeques
  omega
end Go.Proofs.YtanbjdlaolgepaaGreat

namespace Go.Proofs.YtanbjdlaolgepaaGreat
open Go Go.RowKit

/-- What a function of a configuration gives: a number, and new memory. -/
def GivesI (v : Int) (w : World) (e : Ending) (w' : World) : Prop := e = .returned (.int .i64 v) ∧ Below w.heap.size w w'

abbrev cbox (c : Cfg) (pa : Option Addr) (pn pc : Nat) (sa : Option Addr) (sn sc : Nat) : Obj := .cells (cc c pa pn pc sa sn sc) 28

section
variable {w : World} {c : Cfg} {pa sa : Option Addr} {pn pc sn sc : Nat}
theorem deques_any (h : CfgIn c) : Calls Tryz.prog 59 #[cv c pa pn pc sa sn sc] w (GivesI (rDeques c) w) := by
  have h1 := h.he
  have h2 := h.cl
  have h3 := h.wo
  have B1 := Lib.hid (below_one w (cbox c pa pn pc sa sn sc))
  go_enter Tryz.func59, Tryz.ntmps59
  go_wp2
  go_ret
  exact ⟨rfl, B1.out⟩
end
end Go.Proofs.YtanbjdlaolgepaaGreat

namespace Go.Proofs.YtanbjdlaolgepaaGreat
open Go Go.RowKit

section
variable {w : World} {c : Cfg} {pa sa : Option Addr} {pn pc sn sc : Nat}
set_option maxHeartbeats 4000000 in
theorem rcells_any (hin : CfgIn c) : Calls Tryz.prog 40 #[cv c pa pn pc sa sn sc] w (GivesI (rCells c) w) := by
  have HB := Lib.hid (below_one w (cbox c pa pn pc sa sn sc))
  have hX := Blk.made w 28 (cc c pa pn pc sa sn sc)
  have HX := Lib.hid hX
  obtain ⟨e0, e1, e2, e3, e4, e5, e6, e7, e8, e9, e10⟩ := eleven hX
  have hd := hin.deques
  have hal := hin.all
  have hwl := hin.wl
  have hde := hin.de
  have hta := hin.ta
  unfold rCells
  obtain ⟨P0, hP0⟩ : ∃ p, c.wo * c.le = p := ⟨_, rfl⟩
  obtain ⟨P1, hP1⟩ : ∃ p, rAll c = p := ⟨_, rfl⟩
  obtain ⟨D, hD⟩ : ∃ d, rDeques c = d := ⟨_, rfl⟩
  have hP2 : P0 * (2 + c.de) = P1 := by rw [← hP1, ← hP0]; rfl
  rw [hD] at hd ⊢
  rw [hP1] at hal ⊢
  rw [hP0] at hwl
  have HD := Lib.hid hD
  have s0 : IntKind.i64.wrap (c.wo * c.le) = P0 := by rw [hP0]; exact IntWalk.i64_in _ (by omega)
  have s2 : IntKind.i64.wrap (2 + c.de) = 2 + c.de := IntWalk.i64_in _ (by omega)
  have s3 : IntKind.i64.wrap (P0 * (2 + c.de)) = P1 := by rw [hP2]; exact IntWalk.i64_in _ (by omega)
  have s4 : IntKind.i64.wrap (D + P1) = D + P1 := IntWalk.i64_in _ (by omega)
  have s5 : IntKind.i64.wrap (5 * c.ta) = 5 * c.ta := IntWalk.i64_in _ (by omega)
  have s6 : IntKind.i64.wrap (D + P1 + 5 * c.ta) = D + P1 + 5 * c.ta := IntWalk.i64_in _ (by omega)
  have S0 := Lib.hid s0
  have S2 := Lib.hid s2
  have S3 := Lib.hid s3
  have S4 := Lib.hid s4
  have S5 := Lib.hid s5
  have S6 := Lib.hid s6
  clear hX hP0 hP1 hP2 hD s0 s2 s3 s4 s5 s6
  go_enter Tryz.func40, Tryz.ntmps40
  go_wp2_with fail
  generalize w.alloc (cbox c pa pn pc sa sn sc) = W at *
  have XD := Lib.hid (show Blk W.drew w.heap.size 28 (cc c pa pn pc sa sn sc) from HX.out)
  clear e0 e1 e2 e3 e4 e5 e6 e7 e8 e9 e10
  obtain ⟨e0, e1, e2, e3, e4, e5, e6, e7, e8, e9, e10⟩ := eleven XD.out
  have s0 := S0.out
  have s2 := S2.out
  have s3 := S3.out
  have s4 := S4.out
  have s5 := S5.out
  have s6 := S6.out
  go_region_held3 (fun w' => w'.cell? ⟨w.heap.size, 0, none⟩ = some (.int .i64 c.wo) ∧ w'.cell? ⟨w.heap.size, 1, none⟩ = some (.int .i64 c.le) ∧ w'.cell? ⟨w.heap.size, 2, none⟩ = some (.int .i64 c.cl) ∧ w'.cell? ⟨w.heap.size, 3, none⟩ = some (.int .i64 c.ta) ∧ w'.cell? ⟨w.heap.size, 4, none⟩ = some (.int .i64 c.de) ∧ w'.cell? ⟨w.heap.size, 5, none⟩ = some (.int .i64 c.he) ∧ w'.cell? ⟨w.heap.size, 6, none⟩ = some (.int .i64 c.ba) ∧ w'.cell? ⟨w.heap.size, 7, none⟩ = some (.int .i64 c.ag) ∧ w'.cell? ⟨w.heap.size, 8, none⟩ = some (.int .i64 c.pa) ∧ w'.cell? ⟨w.heap.size, 9, none⟩ = some (.slice pa pn pc) ∧ w'.cell? ⟨w.heap.size, 10, none⟩ = some (.slice sa sn sc)) (go_keep)
    ((go_at_call 59
      refine (deques_any hin).mono ?_
      rintro e w1 ⟨rfl, b1⟩
      rw [HD.out]
      obtain ⟨k0, k1, k2, k3, k4, k5, k6, k7, k8, k9, k10⟩ := eleven (XD.out.below b1)
      have BB := Lib.hid b1
      clear b1))
  clear s0 s2 s3 s4 s5 s6
  have HB2 := Lib.hid ((below_drew HB.out).trans (BB.out.mono HB.out.size))
  go_wp2
  go_ret
  exact ⟨rfl, HB2.out⟩
end
end Go.Proofs.YtanbjdlaolgepaaGreat
