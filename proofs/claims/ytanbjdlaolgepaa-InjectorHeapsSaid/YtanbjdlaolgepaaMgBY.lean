/-
  The reference's Push and Pop of layer 14, few, Same of slices that read as words.
  Stage 14: few, Same of slices that read as words, awake.
  The laws of injector: the heap beside the environment. (Written by wip/gen_l16h.py.)
  Numbers of 16 bits that came in.
-/
import Derived.Test.YtanbjdlaolgepaaEdB
import Derived.OwnWalk
import Derived.Laws.AppendOwnNone
import Derived.Test.YtanbjdlaolgepaaMgBT
import Derived.Test.YtanbjdlaolgepaaSlo16
import Derived.Test.YtanbjdlaolgepaaMgAA
import Derived.Test.YtanbjdlaolgepaaMgAH
namespace Go.Proofs.Ytanbjdlaolgepaa
open Go Go.RowKit
set_option linter.unusedSimpArgs false
set_option linter.unusedVariables false

/-- An append of what reads as words. -/
theorem wpList_appUN {w : World} {ops : Array Oper} {rest : List Oper} {o : Oper} {a : Act} {Q : Exit → Act → World → Prop} (hgd : o.guard = none) (s x : Operand)
    (ho : o.op = .call { callee := .builtin .append, args := #[s, x], argTypes := #[41, 41] })
    {base : Nat} {v vx : Value} {l ns : List Int} (hs : a.eval s = v) (hown : OwnW w base v l) (hx : a.eval x = vx) (hin : WV w vx ns) (hn : l.length + ns.length ≤ 1000000) (hb : base ≤ w.heap.size)
    (h : ∀ v' w', OwnW w' base v' (l ++ ns) → w.grownBy w' v.ownBlock → (v ≠ .slice none 0 0 → v' ≠ .slice none 0 0) → wpList Try.prog ops Q rest (a.put o.dst v') w') :
    wpList Try.prog ops Q (o :: rest) a w := by
  obtain ⟨ax, m, c, rfl, hi, hc, ha⟩ := hin
  obtain ⟨i0, hi0, hz0, hz1, hz2⟩ := info_partsG info_w64
  cases ax with
  | some ad =>
    rw [hi.1] at hn
    refine wpList_append_own_at w hgd s x 41 ho base 48 i0 _ 1 8 Try.underlying41 hi0 hz0 hz1 hz2 rfl (by omega) v l.length (l.map (Value.int .u64)) hs hown ad m c (ns.map (Value.int .u64)) hx (by simpa using hi.1) (fun j u hj => ?_) (words_one ns) (by unfold maxLen; omega) (by omega) hb ?_
    · rw [List.getElem?_map] at hj
      have hj2 : j < m := by
        rw [← hi.1]
        cases hjj : ns[j]? with
        | none => rw [hjj] at hj; cases hj
        | some y => exact (List.getElem?_eq_some_iff.1 hjj).1
      rw [hi.cell hj2, ← hj, List.getD_eq_getElem?_getD, List.getElem?_eq_getElem (by rw [hi.1]; exact hj2)]
      rfl
    · intro v' w' h1 h2 h3 _
      refine h v' w' ?_ h2 (fun hv e => hv (h3.1 e).1)
      unfold OwnW
      rw [List.map_append, List.length_append, hi.1]
      exact h1
  | none =>
    have hl : ns = [] := by
      cases ns with
      | nil => rfl
      | cons y l =>
        obtain ⟨_, e, _⟩ := hi.2.2 0 (by have := hi.1; simp at this; omega)
        cases e
    subst hl
    have hm : m = 0 := hi.1.symm
    subst hm
    obtain rfl := ha rfl
    refine wpList_append_own_none hgd s x 41 ho base 48 i0 1 Try.underlying41 hi0 v l.length _ hs hown hx ?_
    have := h v w (by simpa using hown) ⟨rfl, rfl, rfl, Nat.le_refl _, fun _ _ _ => rfl⟩ (fun hv => hv)
    exact this
theorem OwnW.made0 (w : World) : OwnW (w.alloc (.cells #[] 48)) w.heap.size (.slice (some ⟨w.heap.size, 0, none⟩) 0 0) [] := OwnW.lit w w.heap.size [] (Nat.le_refl _) (by simp)
theorem OwnW.row {w : World} {B : Nat} {v : Value} {X : List Int} (h : OwnW w B v X) (h0 : 0 < X.length) : ∃ g c, v = .slice (some ⟨g, 0, none⟩) X.length c ∧ B ≤ g ∧ Row w g X.length c X := by
  refine Row.of_own h (fun e => ?_)
  subst e
  rcases h.2 with ⟨_, h2⟩ | ⟨g, cap, cur, e, _⟩
  · omega
  · cases e

theorem Row.swap {w : World} {g n c j q : Nat} {Y : List Int} {y : Int} (h : Row w g n c (Y.set j y)) (d : Nat) (x : Int) :
    Row (((w.drewN d).setCell ⟨g, j, none⟩ (.int .u64 x)).setCell ⟨g, q, none⟩ (.int .u64 y)) g n c ((Y.set j x).set q y) := by
  have := ((h.drewN d).put (i := j) x).put (i := q) y
  rw [List.set_set] at this
  exact this
theorem WV.init {w : World} {x : Addr} {m c : Nat} {X : List Int} (h : InW w (some x) (m + 1) X) (hc : m + 1 ≤ c) : WV w (.slice (some x) m c) X.dropLast := by
  refine ⟨_, _, _, rfl, ⟨by rw [List.length_dropLast, h.1]; omega, by have := h.2.1; omega, fun i hi => ?_⟩, by omega, fun e => by cases e⟩
  obtain ⟨y, e, hb, hcell⟩ := h.2.2 i (by omega)
  refine ⟨y, e, hb, ?_⟩
  rw [hcell, List.getD_eq_getElem?_getD, List.getD_eq_getElem?_getD, List.getElem?_dropLast, if_pos (by have := h.1; omega)]
end Go.Proofs.Ytanbjdlaolgepaa

namespace Go.Proofs.Ytanbjdlaolgepaa
open Go Go.RowKit
set_option linter.unusedSimpArgs false
set_option linter.unusedVariables false

set_option maxRecDepth 100000 in
set_option maxHeartbeats 1000000 in
theorem wsamev_any {w : World} {v v' : Value} {X : List Int} (h : WV w v X) (h' : WV w v' X) :
    Calls Try.prog 15 #[v, v'] w fun e w' => e = .returned (.bool true) ∧ Below w.heap.size w w' := by
  obtain ⟨a, n, c, rfl, hi, _, _⟩ := h
  obtain ⟨a', n', c', rfl, hi', _, _⟩ := h'
  obtain rfl : n = n' := hi.1.symm.trans hi'.1
  have hmax : n ≤ 9223372036854775807 := by have := hi.2.1; unfold maxLen at this; omega
  have H := Lib.hid hi
  have H' := Lib.hid hi'
  clear hi hi'
  go_enter Try.func15, Try.ntmps15
  go_wp2_with fail
  go_loopw [5] (fun i wr => ∃ (j d : Nat), j ≤ n ∧ i = .int .i64 j ∧ wr = w.drewN d) (fun i _ => n - (intOf i).toNat)
  case atStart => exact ⟨0, 0, by omega, rfl, rfl⟩
  case round =>
    obtain ⟨j, d, hj, rfl, rfl⟩ := hrel
    by_cases hlt : j < n
    · obtain ⟨x, rfl, _, hx⟩ := H.out.2.2 j hlt
      obtain ⟨x', rfl, _, hy⟩ := H'.out.2.2 j hlt
      have hx2 : w.cell? (x.add j) = some (.int .u64 (elt X j)) := hx
      have hy2 : w.cell? (x'.add j) = some (.int .u64 (elt X j)) := hy
      clear hx hy
      generalize elt X j = u at hx2 hy2
      go_wp2_with fail
      go_quiet (fail)
      go_wp2_with fail
      go_roundw
      case rel => exact ⟨j + 1, _, by omega, by go_num, rfl⟩
      case measure => simp [intOf]; omega
    · obtain rfl : j = n := by omega
      go_wp2
      go_ret
      exact ⟨rfl, below_drewN _ _⟩

/-- Keys reduced. -/
def fewE (X : List Int) : List Int := X.map (· % 8)
theorem fewE_len (X : List Int) : (fewE X).length = X.length := List.length_map _
theorem fewE_take {X : List Int} {j : Nat} (hj : j < X.length) : fewE (X.take j) ++ [elt X j % 8] = fewE (X.take (j + 1)) := by
  unfold fewE elt
  rw [List.take_succ_eq_append_getElem hj, List.map_append, List.getD_eq_getElem?_getD, List.getElem?_eq_getElem hj]
  rfl
theorem aw14 : pushE [] 5 = [5] ∧ pushE [5] 3 = [3, 5] ∧ pushE [3, 5] 4 = [3, 5, 4] ∧ pushE [3, 5, 4] 1 = [1, 3, 4, 5] ∧ popE [1, 3, 4, 5] = [3, 5, 4] ∧ elt [1, 3, 4, 5] 0 = 1 := by decide +kernel
/-- The keys of the example. -/
def awK (j : Nat) : List Int := (([5, 3, 4, 1] : List Int).take j).foldl pushE []
theorem awK_next {j : Nat} (hj : j < 4) : pushE (awK j) (elt [5, 3, 4, 1] j) = awK (j + 1) ∧ (awK j).length ≤ 4 := by
  obtain ⟨h1, h2, h3, h4, _⟩ := aw14
  match j, hj with
  | 0, _ => exact ⟨rfl, by decide⟩
  | 1, _ => exact ⟨rfl, by show (pushE [] 5).length ≤ 4; rw [h1]; decide⟩
  | 2, _ => exact ⟨rfl, by show (pushE (pushE [] 5) 3).length ≤ 4; rw [h1, h2]; decide⟩
  | 3, _ => exact ⟨rfl, by show (pushE (pushE (pushE [] 5) 3) 4).length ≤ 4; rw [h1, h2, h3]; decide⟩
theorem awK_all : awK 4 = [1, 3, 4, 5] := by
  obtain ⟨h1, h2, h3, h4, _⟩ := aw14
  show pushE (pushE (pushE (pushE [] 5) 3) 4) 1 = _
  rw [h1, h2, h3, h4]
end Go.Proofs.Ytanbjdlaolgepaa

namespace Go.Proofs.Ytanbjdlaolgepaa
open Go Go.RowKit Go.Shelf
set_option linter.unusedSimpArgs false
set_option linter.unusedVariables false

/-- The slice v reads as the words X, and is not the memory's row. -/
def HV (w : World) (g : Nat) (v : Value) (X : List Int) : Prop := (v = .slice none 0 0 ∧ X = []) ∨ ∃ gh n c, v = .slice (some ⟨gh, 0, none⟩) n c ∧ Row w gh n c X ∧ gh ≠ g
theorem HV.wv {w : World} {g : Nat} {v : Value} {X : List Int} (h : HV w g v X) : WV w v X := by
  rcases h with ⟨rfl, rfl⟩ | ⟨gh, n, c, rfl, hr, _⟩
  · exact WV.nil w
  · exact hr.wv
theorem HV.below {w w' : World} {g : Nat} {v : Value} {X : List Int} (h : HV w g v X) (hb : Below w.heap.size w w') : HV w' g v X := by
  rcases h with h | ⟨gh, n, c, rfl, hr, hn⟩
  · exact .inl h
  · exact .inr ⟨gh, n, c, rfl, hr.of_same (hb.block gh hr.lt), hn⟩
theorem HV.form {w : World} {g : Nat} {v : Value} {X : List Int} (h : HV w g v X) : ∃ a c, v = .slice a X.length c := by
  rcases h with ⟨rfl, rfl⟩ | ⟨gh, n, c, rfl, hr, hn⟩
  · exact ⟨_, _, rfl⟩
  · rw [hr.len]
    exact ⟨_, _, rfl⟩
theorem NewW.hv {w w' : World} {g : Nat} {v : Value} {X : List Int} (h : NewW w w' v X) (hg : g < w.heap.size) : HV w' g v X := by
  obtain ⟨gh, n, c, rfl, h1, hr, _⟩ := h
  exact .inr ⟨gh, n, c, rfl, hr, by omega⟩
section
variable {w0 w w' : World} {p m k g cap q : Nat} {c : Cfg} {hd : List Value} {rv ev ev' : Value} {es es' : List Ev} {s s' : St}
theorem EV.nin (h : EV w0 p m k g cap c hd rv ev es s w) {tq : TypeId} {cq : Array Value} (hq : Blk w q tq cq) {x : Nat} {tx : TypeId} {cx : Array Value} (hx : Blk w x tx cx) (t1 : tx ≠ 40) (t2 : tx ≠ 112) (t4 : tx ≠ 48 ∨ x ≠ g) (t5 : tx ≠ tq) (t6 : tx ≠ 61) : x ∉ p :: m :: g :: q :: ev.ownBlock.toList := by
  obtain ⟨cur, hg, _⟩ := h.e.mem.row.blk
  simp only [List.mem_cons, not_or]
  refine ⟨hx.apart h.e.blk t1, hx.apart h.e.mem.blk t2, ?_, hx.apart hq t5, h.v.nin hx t6⟩
  rcases t4 with t4 | t4
  · exact hx.apart hg t4
  · exact t4
theorem HV.keep {v : Value} {X : List Int} (hv : HV w g v X) (h : EV w0 p m k g cap c hd rv ev es s w) {tq : TypeId} {cq : Array Value} (hq : Blk w q tq cq) (hf : Fr (p :: m :: g :: q :: ev.ownBlock.toList) w w') (ht : 48 ≠ tq) : HV w' g v X := by
  rcases hv with hv | ⟨gh, n, cc, rfl, hr, hn⟩
  · exact .inl hv
  · obtain ⟨cur, hb, _⟩ := hr.blk
    exact .inr ⟨gh, n, cc, rfl, hr.of_same (hf.block gh hr.lt (h.nin hq hb (by decide) (by decide) (.inr hn) ht (by decide))), hn⟩
end
end Go.Proofs.Ytanbjdlaolgepaa

namespace Go.Proofs.Ytanbjdlaolgepaa
open Go Go.ChangeShapes Go.WideShapes Go.ChangeAt Go.RowKit
set_option linter.unusedSimpArgs false

/-- The slice (a, n) reads as the bytes zs. -/
def InH (w : World) (a : Option Addr) (n : Nat) (zs : List Int) : Prop :=
  zs.length = n ∧ n ≤ maxLen ∧ ∀ i, i < n → ∃ x : Addr, a = some x ∧ x.block < w.heap.size ∧ w.cell? (x.add i) = some (.int .u16 (zs.getD i 0)) ∧ 0 ≤ zs.getD i 0 ∧ zs.getD i 0 ≤ 65535

theorem InH.below {w w' : World} {a : Option Addr} {n : Nat} {zs : List Int} (h : InH w a n zs) (hb : Below w.heap.size w w') : InH w' a n zs :=
  ⟨h.1, h.2.1, fun i hi => by
    obtain ⟨x, e, hx, hc, hr⟩ := h.2.2 i hi
    refine ⟨x, e, Nat.lt_of_lt_of_le hx hb.size, ?_, hr⟩
    rw [hb.cell (by rw [show (x.add i).block = x.block by unfold Addr.add; split <;> rfl]; exact hx)]
    exact hc⟩
theorem InH.cell {w : World} {x : Addr} {n : Nat} {zs : List Int} (h : InH w (some x) n zs) {i : Nat} (hi : i < n) : w.cell? (x.add i) = some (.int .u16 (zs.getD i 0)) := by
  obtain ⟨y, e, _, hc, _⟩ := h.2.2 i hi
  cases e
  exact hc
theorem InH.drew {w : World} {a : Option Addr} {n : Nat} {zs : List Int} (h : InH w a n zs) : InH w.drew a n zs := h

set_option maxRecDepth 100000 in
theorem open_u16s {H : Type} {enc : TypeId × Value → H} {w : World} {base b0 : Nat} {spare : Nat → Bool} {held : Bool} {r : Reach} {v : Value} {d : DataW H} {p : List MemPlace}
    (hv : Value.okWide Try.prog w r b0 22 v) (h : DataW.Trod enc Try.prog w base spare held 22 v d p) :
    ∃ (a : Option Addr) (n c : Nat) (zs : List Int), v = .slice a n c ∧ InH w a n zs := by
  obtain ⟨a, n, c, rfl⟩ := okWide_slice Try.underlying22 hv
  obtain ⟨fuel, hf⟩ := h
  rcases open_ints Try.underlying22 Try.underlying42 (by kernel_rfl) hf with ⟨hcs, _⟩ | ⟨x, l, c', zs, hcs, _, hl, hm, hz, _, hcell, hwf⟩
  · simp [Value.cells] at hcs
    obtain ⟨rfl, rfl, rfl⟩ := hcs
    exact ⟨_, _, _, [], rfl, rfl, by simp, fun i hi => absurd hi (by omega)⟩
  · simp [Value.cells] at hcs
    obtain ⟨rfl, rfl, rfl⟩ := hcs
    have hnz : n ≤ zs.length := by rw [hz]; split <;> omega
    refine ⟨_, _, _, zs.take n, rfl, by simp; omega, by omega, fun i hi => ⟨x, rfl, ?_, ?_, ?_⟩⟩
    · have := World.block_lt_of_cell? w _ (hcell i (by omega))
      rwa [show (x.add i).block = x.block by unfold Addr.add; split <;> rfl] at this
    · rw [hcell i (by omega), List.getD_eq_getElem?_getD, List.getD_eq_getElem?_getD, List.getElem?_take, if_pos hi]
    · have hi' : i < zs.length := by omega
      have hw := hwf (zs[i]) (List.getElem_mem hi')
      have e : (zs.take n).getD i 0 = zs[i] := by
        rw [List.getD_eq_getElem?_getD, List.getElem?_take, if_pos hi, List.getElem?_eq_getElem hi']
        rfl
      rw [e]
      simp only [Lit.wf, Bool.and_eq_true, decide_eq_true_eq] at hw
      have h0 : IntKind.u16.min = 0 := rfl
      have h1 : IntKind.u16.max = 65535 := rfl
      rw [h0, h1] at hw
      exact hw
end Go.Proofs.Ytanbjdlaolgepaa
