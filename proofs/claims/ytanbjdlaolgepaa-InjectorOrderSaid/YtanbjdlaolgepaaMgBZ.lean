/-
  The laws of injector: the heap beside the environment. (Written by wip/gen_l16h.py.)
  Numbers of 16 bits that came in.
  The law InjectorOrder: the keys of submissions in a heap. No function is named.
  An == between two structs of ints.
  The reference's Same: are two lists of events equal?
-/
import Derived.Test.YtanbjdlaolgepaaMgBT
import Derived.Test.YtanbjdlaolgepaaSlo16
import Derived.Test.YtanbjdlaolgepaaMgBY
import Derived.Test.YtanbjdlaolgepaaMgAA
import Derived.Test.YtanbjdlaolgepaaMgAH
import Derived.Test.YtanbjdlaolgepaaInjT
import Derived.ChangeKeysEq
import Derived.Test.YtanbjdlaolgepaaMgAP
import Derived.LoopTactic
import Derived.Deep.QuietTactic
import Derived.BigQuiet
import Derived.Lib.Hide
namespace Go.Proofs.Ytanbjdlaolgepaa
open Go Go.RowKit Go.Shelf
set_option linter.unusedSimpArgs false
set_option linter.unusedVariables false

/-- The slice v reads as the words X, and is not the memory's row. -/
def HV (w : World) (g : Nat) (v : Value) (X : List Int) : Prop := (v = .slice none 0 0 ∧ X = []) ∨ ∃ gh n c, v = .slice (some ⟨gh, 0, none⟩) n c ∧ Row w gh n c X ∧ gh ≠ g
theorem HV.wv {w : World} {g : Nat} {v : Value} {X : List Int} (h : HV w g v X) : WV w v X := by
  rcases h with ⟨rfl, rfl⟩ | ⟨gh, n, c, rfl, hr, _⟩
  · exact WV.nil w
  · exact hr.wv
theorem HV.below {w w' : World} {g : Nat} {v : Value} {X : List Int} (h : HV w g v X) (hb : Below w.heap.size w w') : HV w' g v X := by
  rcases h with h | ⟨gh, n, c, rfl, hr, hn⟩
  · exact .inl h
  · exact .inr ⟨gh, n, c, rfl, hr.of_same (hb.block gh hr.lt), hn⟩
theorem HV.form {w : World} {g : Nat} {v : Value} {X : List Int} (h : HV w g v X) : ∃ a c, v = .slice a X.length c := by
  rcases h with ⟨rfl, rfl⟩ | ⟨gh, n, c, rfl, hr, hn⟩
  · exact ⟨_, _, rfl⟩
  · rw [hr.len]
    exact ⟨_, _, rfl⟩
theorem NewW.hv {w w' : World} {g : Nat} {v : Value} {X : List Int} (h : NewW w w' v X) (hg : g < w.heap.size) : HV w' g v X := by
  obtain ⟨gh, n, c, rfl, h1, hr, _⟩ := h
  exact .inr ⟨gh, n, c, rfl, hr, by omega⟩
section
variable {w0 w w' : World} {p m k g cap q : Nat} {c : Cfg} {hd : List Value} {rv ev ev' : Value} {es es' : List Ev} {s s' : St}
theorem EV.nin (h : EV w0 p m k g cap c hd rv ev es s w) {tq : TypeId} {cq : Array Value} (hq : Blk w q tq cq) {x : Nat} {tx : TypeId} {cx : Array Value} (hx : Blk w x tx cx) (t1 : tx ≠ 40) (t2 : tx ≠ 112) (t4 : tx ≠ 48 ∨ x ≠ g) (t5 : tx ≠ tq) (t6 : tx ≠ 61) : x ∉ p :: m :: g :: q :: ev.ownBlock.toList := by
  obtain ⟨cur, hg, _⟩ := h.e.mem.row.blk
  simp only [List.mem_cons, not_or]
  refine ⟨hx.apart h.e.blk t1, hx.apart h.e.mem.blk t2, ?_, hx.apart hq t5, h.v.nin hx t6⟩
  rcases t4 with t4 | t4
  · exact hx.apart hg t4
  · exact t4
theorem HV.keep {v : Value} {X : List Int} (hv : HV w g v X) (h : EV w0 p m k g cap c hd rv ev es s w) {tq : TypeId} {cq : Array Value} (hq : Blk w q tq cq) (hf : Fr (p :: m :: g :: q :: ev.ownBlock.toList) w w') (ht : 48 ≠ tq) : HV w' g v X := by
  rcases hv with hv | ⟨gh, n, cc, rfl, hr, hn⟩
  · exact .inl hv
  · obtain ⟨cur, hb, _⟩ := hr.blk
    exact .inr ⟨gh, n, cc, rfl, hr.of_same (hf.block gh hr.lt (h.nin hq hb (by decide) (by decide) (.inr hn) ht (by decide))), hn⟩
end
end Go.Proofs.Ytanbjdlaolgepaa

namespace Go.Proofs.Ytanbjdlaolgepaa
open Go Go.ChangeShapes Go.WideShapes Go.ChangeAt Go.RowKit
set_option linter.unusedSimpArgs false

/-- The slice (a, n) reads as the bytes zs. -/
def InH (w : World) (a : Option Addr) (n : Nat) (zs : List Int) : Prop :=
  zs.length = n ∧ n ≤ maxLen ∧ ∀ i, i < n → ∃ x : Addr, a = some x ∧ x.block < w.heap.size ∧ w.cell? (x.add i) = some (.int .u16 (zs.getD i 0)) ∧ 0 ≤ zs.getD i 0 ∧ zs.getD i 0 ≤ 65535

theorem InH.below {w w' : World} {a : Option Addr} {n : Nat} {zs : List Int} (h : InH w a n zs) (hb : Below w.heap.size w w') : InH w' a n zs :=
  ⟨h.1, h.2.1, fun i hi => by
    obtain ⟨x, e, hx, hc, hr⟩ := h.2.2 i hi
    refine ⟨x, e, Nat.lt_of_lt_of_le hx hb.size, ?_, hr⟩
    rw [hb.cell (by rw [show (x.add i).block = x.block by unfold Addr.add; split <;> rfl]; exact hx)]
    exact hc⟩
theorem InH.cell {w : World} {x : Addr} {n : Nat} {zs : List Int} (h : InH w (some x) n zs) {i : Nat} (hi : i < n) : w.cell? (x.add i) = some (.int .u16 (zs.getD i 0)) := by
  obtain ⟨y, e, _, hc, _⟩ := h.2.2 i hi
  cases e
  exact hc
theorem InH.drew {w : World} {a : Option Addr} {n : Nat} {zs : List Int} (h : InH w a n zs) : InH w.drew a n zs := h

set_option maxRecDepth 100000 in
theorem open_u16s {H : Type} {enc : TypeId × Value → H} {w : World} {base b0 : Nat} {spare : Nat → Bool} {held : Bool} {r : Reach} {v : Value} {d : DataW H} {p : List MemPlace}
    (hv : Value.okWide Try.prog w r b0 22 v) (h : DataW.Trod enc Try.prog w base spare held 22 v d p) :
    ∃ (a : Option Addr) (n c : Nat) (zs : List Int), v = .slice a n c ∧ InH w a n zs := by
  obtain ⟨a, n, c, rfl⟩ := okWide_slice Try.underlying22 hv
  obtain ⟨fuel, hf⟩ := h
  rcases open_ints Try.underlying22 Try.underlying42 (by kernel_rfl) hf with ⟨hcs, _⟩ | ⟨x, l, c', zs, hcs, _, hl, hm, hz, _, hcell, hwf⟩
  · simp [Value.cells] at hcs
    obtain ⟨rfl, rfl, rfl⟩ := hcs
    exact ⟨_, _, _, [], rfl, rfl, by simp, fun i hi => absurd hi (by omega)⟩
  · simp [Value.cells] at hcs
    obtain ⟨rfl, rfl, rfl⟩ := hcs
    have hnz : n ≤ zs.length := by rw [hz]; split <;> omega
    refine ⟨_, _, _, zs.take n, rfl, by simp; omega, by omega, fun i hi => ⟨x, rfl, ?_, ?_, ?_⟩⟩
    · have := World.block_lt_of_cell? w _ (hcell i (by omega))
      rwa [show (x.add i).block = x.block by unfold Addr.add; split <;> rfl] at this
    · rw [hcell i (by omega), List.getD_eq_getElem?_getD, List.getD_eq_getElem?_getD, List.getElem?_take, if_pos hi]
    · have hi' : i < zs.length := by omega
      have hw := hwf (zs[i]) (List.getElem_mem hi')
      have e : (zs.take n).getD i 0 = zs[i] := by
        rw [List.getD_eq_getElem?_getD, List.getElem?_take, if_pos hi, List.getElem?_eq_getElem hi']
        rfl
      rw [e]
      simp only [Lit.wf, Bool.and_eq_true, decide_eq_true_eq] at hw
      have h0 : IntKind.u16.min = 0 := rfl
      have h1 : IntKind.u16.max = 65535 := rfl
      rw [h0, h1] at hw
      exact hw
end Go.Proofs.Ytanbjdlaolgepaa

namespace Go.Proofs.Ytanbjdlaolgepaa
open Go Go.RowKit
set_option linter.unusedSimpArgs false
set_option linter.unusedVariables false

/-- The key of task t. -/
def keyT (lz : List Int) (t : Nat) : Int := keyS (lz.getD t 0 % 32) t t
theorem keyT_keyed (lz : List Int) {t : Nat} (h : t < 64) : Keyed (lz.getD t 0 % 32) t t := by
  unfold Keyed
  omega
theorem keyT_task (lz : List Int) {t : Nat} (h : t < 64) : keyT lz t % 65536 = t := keyS_task (keyT_keyed lz h)
theorem keyT_le (lz : List Int) {a b : Nat} (ha : a < 64) (hb : b < 64) (h : keyT lz a ≤ keyT lz b) : lz.getD a 0 % 32 < lz.getD b 0 % 32 ∨ (lz.getD a 0 % 32 = lz.getD b 0 % 32 ∧ a ≤ b) := by
  unfold keyT keyS at h
  omega
/-- What is left in the injector. -/
structure Left (lz : List Int) (L : Nat) (h : List Int) (rem : List Nat) (lst : Option Nat) : Prop where
  hp : HeapE h
  pm : h.Perm (rem.map (keyT lz))
  nd : rem.Nodup
  lt : ∀ t ∈ rem, t < L
  mn : ∀ l, lst = some l → l < L ∧ l ∉ rem ∧ ∀ t ∈ rem, keyT lz l ≤ keyT lz t
theorem heap_nil : HeapE [] := fun j _ h => absurd h (by simp)
theorem push_left {lz : List Int} {j : Nat} {h : List Int} (hh : HeapE h) (hp : h.Perm ((List.range j).map (keyT lz))) : HeapE (pushE h (keyT lz j)) ∧ (pushE h (keyT lz j)).Perm ((List.range (j + 1)).map (keyT lz)) := by
  refine ⟨pushE_heap hh, (pushE_perm h (keyT lz j)).trans ?_⟩
  rw [List.range_succ, List.map_append]
  exact hp.append_right _
theorem Left.first {lz : List Int} {L : Nat} {h : List Int} (hh : HeapE h) (hp : h.Perm ((List.range L).map (keyT lz))) : Left lz L h (List.range L) none :=
  ⟨hh, hp, List.nodup_range, fun t ht => List.mem_range.1 ht, fun l hl => by cases hl⟩
theorem Left.pop {lz : List Int} {L : Nat} {h : List Int} {rem : List Nat} {lst : Option Nat} (H : Left lz L h rem lst) (h0 : 0 < h.length) (hL : L ≤ 64) :
    ∃ t, t ∈ rem ∧ t < L ∧ elt h 0 = keyT lz t ∧ Left lz L (popE h) (rem.erase t) (some t) ∧ (∀ l, lst = some l → l < L ∧ (lz.getD l 0 % 32 < lz.getD t 0 % 32 ∨ (lz.getD l 0 % 32 = lz.getD t 0 % 32 ∧ l < t))) := by
  have hm : elt h 0 ∈ rem.map (keyT lz) := H.pm.mem_iff.1 (elt_mem h0)
  obtain ⟨t, ht, e⟩ := List.mem_map.1 hm
  have htL := H.lt t ht
  have hp1 : (elt h 0 :: popE h).Perm (keyT lz t :: (rem.erase t).map (keyT lz)) := by
    refine ((popE_perm h0).trans H.pm).trans ?_
    exact (List.perm_cons_erase ht).map (keyT lz)
  rw [← e] at hp1
  have hp2 := (List.perm_cons (keyT lz t)).1 hp1
  refine ⟨t, ht, htL, e.symm, ⟨popE_heap H.hp, hp2, H.nd.erase t, fun x hx => H.lt x (List.mem_of_mem_erase hx), fun l hl => ?_⟩, fun l hl => ?_⟩
  · cases hl
    refine ⟨htL, fun hx => (List.Nodup.mem_erase_iff H.nd).1 hx |>.1 rfl, fun x hx => ?_⟩
    have hx2 : keyT lz x ∈ popE h := hp2.mem_iff.2 (List.mem_map.2 ⟨x, hx, rfl⟩)
    obtain ⟨i, hi, hxe⟩ := List.mem_iff_getElem.1 hx2
    rw [popE_len] at hi
    have := pop_min H.hp i hi
    rw [← e] at this
    have he : elt (popE h) i = keyT lz x := by
      unfold elt
      rw [List.getD_eq_getElem?_getD, List.getElem?_eq_getElem (by rw [popE_len]; exact hi)]
      exact hxe
    rwa [he] at this
  · obtain ⟨h1, h2, h3⟩ := H.mn l hl
    refine ⟨h1, ?_⟩
    have := keyT_le lz (by omega) (by omega) (h3 t ht)
    have hne : l ≠ t := fun e => h2 (e ▸ ht)
    omega
end Go.Proofs.Ytanbjdlaolgepaa

namespace Go.Proofs.Ytanbjdlaolgepaa
open Go Go.RowKit

theorem qeq_int (k : Nat) (x y : Int) (u : World) : (Op.equalIn (k + 1) 3 (.int .i64 x) (.int .i64 y)).run Try.prog u = .ok (x == y) u := by
  simp [Op.equalIn, run_underlying Try.underlying3]
theorem eqFields_ints (k : Nat) (xs ys : List Int) (u : World) : ∀ (fs : List Field) (is : List Nat), fs.map (fun f => (f.name == "_", f.type, f.offset)) = is.map (fun i => (false, 3, i)) → (∀ i ∈ is, i < xs.length ∧ i < ys.length) →
    (Op.eqFields (k + 1) (xs.map (Value.int .i64)).toArray (ys.map (Value.int .i64)).toArray fs).run Try.prog u = .ok (is.all fun i => xs.getD i 0 == ys.getD i 0) u
  | [], [], _, _ => by simp [Op.eqFields]
  | [], _ :: _, h, _ => by simp at h
  | _ :: _, [], h, _ => by simp at h
  | f :: fs, i :: is, h, hl => by
    simp only [List.map_cons, List.cons.injEq, Prod.mk.injEq] at h
    obtain ⟨⟨hn, ht, ho⟩, hr⟩ := h
    have hp : Try.prog.plainKey 3 = true := by kernel_rfl
    obtain ⟨h1, h2⟩ := hl i (by simp)
    have ih := eqFields_ints k xs ys u fs is hr (fun j hj => hl j (by simp [hj]))
    have g : ∀ zs : List Int, i < zs.length → (zs.map (Value.int .i64)).toArray[f.offset]? = some (.int .i64 (zs.getD i 0)) := by
      intro zs hz
      rw [ho]
      simp [hz]
    have hnm : f.name ≠ "_" := by simpa using hn
    have p1 := run_part_plain (P := Try.prog) u hp (g xs h1)
    have p2 := run_part_plain (P := Try.prog) u hp (g ys h2)
    rw [← ht] at p1 p2
    have p3 := qeq_int k (xs.getD i 0) (ys.getD i 0) u
    rw [← ht] at p3
    simp only [Op.eqFields, hnm, ne_eq, not_false_eq_true, if_true, Sem.run_bind, p1, p2, p3, Result.andThen_ok, List.all_cons]
    cases hb : (xs.getD i 0 == ys.getD i 0) with
    | false => simp
    | true => simpa using ih
end Go.Proofs.Ytanbjdlaolgepaa

namespace Go.Proofs.Ytanbjdlaolgepaa
open Go Go.RowKit
set_option linter.unusedSimpArgs false

theorem ev_eq (x y : Ev) (u : World) : (Op.equalIn 10000 61 (.agg (evV x)) (.agg (evV y))).run Try.prog u = .ok (decide (x = y)) u := by
  rw [show (10000 : Nat) = 9999 + 1 from rfl, run_equalIn_struct u 9999 61 _ _ (by kernel_rfl) (by kernel_rfl)]
  have h := eqFields_ints 9998 [x.kd, x.wk, x.tk, x.ot, x.lv] [y.kd, y.wk, y.tk, y.ot, y.lv] u (Try.prog.fieldsOf 61).toList [0, 1, 2, 3, 4] (by kernel_rfl) (by simp)
  simp only [List.map_cons, List.map_nil] at h
  refine h.trans (congrArg (fun b => Result.ok b u) ?_)
  clear h
  rw [Bool.eq_iff_iff, decide_eq_true_iff]
  obtain ⟨x0, x1, x2, x3, x4⟩ := x
  obtain ⟨y0, y1, y2, y3, y4⟩ := y
  simp
theorem ev_ne (x y : Ev) (u : World) : (binOp .neq 61 (.agg (evV x)) (.agg (evV y))).run Try.prog u = .ok (.bool (!decide (x = y))) u := by
  simp only [binOp, Op.equal, Op.maxDepth, Sem.run_bind, Sem.run_pure]
  rw [ev_eq x y u]
  rfl

/-- What Same gives. -/
def SameR (xs ys : List Ev) (w : World) (e : Ending) (w' : World) : Prop := e = .returned (.bool (decide (xs = ys))) ∧ ∃ d, w' = w.drewN d

theorem etake_more {zs ys : List Ev} {j : Nat} {u : Ev} (h1 : zs[j]? = some u) (h2 : ys[j]? = some u) (ht : zs.take j = ys.take j) : zs.take (j + 1) = ys.take (j + 1) := by
  rw [List.take_add_one, List.take_add_one, ht, h1, h2]

end Go.Proofs.Ytanbjdlaolgepaa
