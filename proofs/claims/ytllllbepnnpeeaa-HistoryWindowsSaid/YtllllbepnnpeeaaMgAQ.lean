/-
  An == between two structs of ints.
  The reference's Same: are two lists of events equal?
  Contracts of package memory: New, Size, Peek, Count, Last, Cells.
  Package clock: Now.
  The match's Same: an environment of the program and one of the reference that are equal.
-/
import Derived.Test.YtllllbepnnpeeaaMgAA
import Derived.ChangeKeysEq
import Derived.Test.YtllllbepnnpeeaaMgAL
import Derived.LoopTactic
import Derived.Deep.QuietTactic
import Derived.BigQuiet
import Derived.Lib.Hide
import Derived.Test.YtllllbepnnpeeaaMgAB
import Derived.Maps.AppendAt
import Derived.OwnWalk
import Derived.Deep.RegionHeld3
import Derived.Deep.OwnRows
import Derived.WalkSpells
import Derived.WalkLawsBesides
import Derived.IntWalk
import Derived.Test.YtllllbepnnpeeaaMgAP
namespace Go.Proofs.Ytllllbepnnpeeaa
open Go Go.RowKit

theorem qeq_int (k : Nat) (x y : Int) (u : World) : (Op.equalIn (k + 1) 3 (.int .i64 x) (.int .i64 y)).run Try.prog u = .ok (x == y) u := by
  simp [Op.equalIn, run_underlying Try.underlying3]
theorem eqFields_ints (k : Nat) (xs ys : List Int) (u : World) : ∀ (fs : List Field) (is : List Nat), fs.map (fun f => (f.name == "_", f.type, f.offset)) = is.map (fun i => (false, 3, i)) → (∀ i ∈ is, i < xs.length ∧ i < ys.length) →
    (Op.eqFields (k + 1) (xs.map (Value.int .i64)).toArray (ys.map (Value.int .i64)).toArray fs).run Try.prog u = .ok (is.all fun i => xs.getD i 0 == ys.getD i 0) u
  | [], [], _, _ => by simp [Op.eqFields]
  | [], _ :: _, h, _ => by simp at h
  | _ :: _, [], h, _ => by simp at h
  | f :: fs, i :: is, h, hl => by
    simp only [List.map_cons, List.cons.injEq, Prod.mk.injEq] at h
    obtain ⟨⟨hn, ht, ho⟩, hr⟩ := h
    have hp : Try.prog.plainKey 3 = true := by kernel_rfl
    obtain ⟨h1, h2⟩ := hl i (by simp)
    have ih := eqFields_ints k xs ys u fs is hr (fun j hj => hl j (by simp [hj]))
    have g : ∀ zs : List Int, i < zs.length → (zs.map (Value.int .i64)).toArray[f.offset]? = some (.int .i64 (zs.getD i 0)) := by
      intro zs hz
      rw [ho]
      simp [hz]
    have hnm : f.name ≠ "_" := by simpa using hn
    have p1 := run_part_plain (P := Try.prog) u hp (g xs h1)
    have p2 := run_part_plain (P := Try.prog) u hp (g ys h2)
    rw [← ht] at p1 p2
    have p3 := qeq_int k (xs.getD i 0) (ys.getD i 0) u
    rw [← ht] at p3
    simp only [Op.eqFields, hnm, ne_eq, not_false_eq_true, if_true, Sem.run_bind, p1, p2, p3, Result.andThen_ok, List.all_cons]
    cases hb : (xs.getD i 0 == ys.getD i 0) with
    | false => simp
    | true => simpa using ih
end Go.Proofs.Ytllllbepnnpeeaa

namespace Go.Proofs.Ytllllbepnnpeeaa
open Go Go.RowKit
set_option linter.unusedSimpArgs false

theorem ev_eq (x y : Ev) (u : World) : (Op.equalIn 10000 172 (.agg (evV x)) (.agg (evV y))).run Try.prog u = .ok (decide (x = y)) u := by
  rw [show (10000 : Nat) = 9999 + 1 from rfl, run_equalIn_struct u 9999 172 _ _ (by kernel_rfl) (by kernel_rfl)]
  have h := eqFields_ints 9998 [x.kd, x.wk, x.tk, x.ot, x.lv] [y.kd, y.wk, y.tk, y.ot, y.lv] u (Try.prog.fieldsOf 172).toList [0, 1, 2, 3, 4] (by kernel_rfl) (by simp)
  simp only [List.map_cons, List.map_nil] at h
  refine h.trans (congrArg (fun b => Result.ok b u) ?_)
  clear h
  rw [Bool.eq_iff_iff, decide_eq_true_iff]
  obtain ⟨x0, x1, x2, x3, x4⟩ := x
  obtain ⟨y0, y1, y2, y3, y4⟩ := y
  simp
theorem ev_ne (x y : Ev) (u : World) : (binOp .neq 172 (.agg (evV x)) (.agg (evV y))).run Try.prog u = .ok (.bool (!decide (x = y))) u := by
  simp only [binOp, Op.equal, Op.maxDepth, Sem.run_bind, Sem.run_pure]
  rw [ev_eq x y u]
  rfl

/-- What Same gives. -/
def SameR (xs ys : List Ev) (w : World) (e : Ending) (w' : World) : Prop := e = .returned (.bool (decide (xs = ys))) ∧ ∃ d, w' = w.drewN d

theorem etake_more {zs ys : List Ev} {j : Nat} {u : Ev} (h1 : zs[j]? = some u) (h2 : ys[j]? = some u) (ht : zs.take j = ys.take j) : zs.take (j + 1) = ys.take (j + 1) := by
  rw [List.take_add_one, List.take_add_one, ht, h1, h2]

set_option maxRecDepth 100000 in
set_option maxHeartbeats 2000000 in
theorem evsame_any {w : World} {a b : Option Addr} {xs ys : List Ev} (h : InE w a xs) (h' : InE w b ys) (c c' : Nat) :
    Calls Try.prog 69 #[.slice a xs.length c, .slice b ys.length c'] w (SameR xs ys w) := by
  have hmax := h.1
  unfold maxLen at hmax
  obtain ⟨n, hn⟩ : ∃ n, xs.length = n := ⟨_, rfl⟩
  obtain ⟨m, hm⟩ : ∃ m, ys.length = m := ⟨_, rfl⟩
  rw [hn, hm]
  rw [hn] at hmax
  have HL := Lib.hid (And.intro hn hm)
  clear hn hm
  by_cases hnm : n = m
  · subst hnm
    have H := Lib.hid h
    have H' := Lib.hid h'
    clear h h'
    go_enter Try.func69, Try.ntmps69
    go_wp2_with fail
    go_loopw [5] (fun i wr => ∃ (j d : Nat), j ≤ n ∧ i = .int .i64 j ∧ wr = w.drewN d ∧ xs.take j = ys.take j) (fun i _ => n - (intOf i).toNat)
    case atStart => exact ⟨0, 0, by omega, rfl, rfl, by simp⟩
    case round =>
      obtain ⟨j, d, hj, rfl, rfl, ht⟩ := hrel
      have HT := Lib.hid ht
      clear ht
      by_cases hlt : j < n
      · obtain ⟨u, hu⟩ : ∃ u, xs[j]? = some u := ⟨_, List.getElem?_eq_getElem (by rw [HL.out.1]; exact hlt)⟩
        obtain ⟨v, hv⟩ : ∃ v, ys[j]? = some v := ⟨_, List.getElem?_eq_getElem (by rw [HL.out.2]; exact hlt)⟩
        obtain ⟨x, rfl, x0, x1, x2, x3, x4⟩ := H.out.at_ hu
        obtain ⟨y, rfl, y0, y1, y2, y3, y4⟩ := H'.out.at_ hv
        have HU := Lib.hid hu
        have HV := Lib.hid hv
        have hq := fun (W : World) => ev_ne u v W
        clear hu hv
        by_cases he : u = v
        · rw [decide_eq_true he] at hq
          have HE := Lib.hid he
          clear he
          go_wp2_with fail
          go_quiet (fail)
          go_wp2_with fail
          go_roundw
          case rel => exact ⟨j + 1, _, by omega, by go_num, rfl, etake_more HU.out (by rw [HE.out]; exact HV.out) HT.out⟩
          case measure => simp [intOf]; omega
        · rw [decide_eq_false he] at hq
          have HE := Lib.hid he
          clear he
          go_wp2_with fail
          go_quiet (fail)
          go_wp2
          go_ret
          refine ⟨congrArg (fun b => Ending.returned (Value.bool b)) (decide_eq_false (fun e => ?_)).symm, _, World.drewN_drewN _ _ _⟩
          have h1 := HU.out
          rw [e, HV.out] at h1
          exact HE.out (Option.some.inj h1).symm
      · obtain rfl : j = n := by omega
        have ht := HT.out
        rw [List.take_of_length_le (by rw [HL.out.1]; exact Nat.le_refl _), List.take_of_length_le (by rw [HL.out.2]; exact Nat.le_refl _)] at ht
        have HT2 := Lib.hid ht
        clear ht
        go_wp2
        go_ret
        exact ⟨congrArg (fun b => Ending.returned (Value.bool b)) (decide_eq_true HT2.out).symm, _, rfl⟩
  · have hd : ((n : Int) == (m : Int)) = false := by simp; omega
    have hne : xs ≠ ys := by
      intro e
      apply hnm
      rw [← HL.out.1, ← HL.out.2, e]
    have HNE := Lib.hid hne
    clear h h' hne
    go_enter Try.func69, Try.ntmps69
    go_wp2
    go_ret
    exact ⟨congrArg (fun b => Ending.returned (Value.bool b)) (decide_eq_false HNE.out).symm, 0, rfl⟩
end Go.Proofs.Ytllllbepnnpeeaa

namespace Go.Proofs.Ytllllbepnnpeeaa
open Go Go.RowKit Go.Shelf

theorem msize_any {w : World} {p g cap : Nat} {s : St} (h : Mem w p g cap s) :
    Calls Try.prog 42 #[.pointer (some ⟨p, 0, none⟩)] w fun e w' => e = .returned (.int .i64 s.X.length) ∧ w = w' := by
  have h0 : w.cell? ⟨p, 0, none⟩ = some (.slice (some ⟨g, 0, none⟩) s.X.length cap) := h.blk.at_ 0
  go_enter Try.func42, Try.ntmps42
  go_wp2
  go_ret
  exact ⟨rfl, rfl⟩

theorem count_any {w : World} {p g cap : Nat} {s : St} (h : Mem w p g cap s) :
    Calls Try.prog 67 #[.pointer (some ⟨p, 0, none⟩)] w fun e w' => e = .returned (.int .i64 s.c) ∧ w = w' := by
  have h0 : w.cell? ⟨p, 1, none⟩ = some (.int .i64 s.c) := h.blk.at_ 1
  go_enter Try.func67, Try.ntmps67
  go_wp2
  go_ret
  exact ⟨rfl, rfl⟩

/-- The last access, as a value. -/
def St.last (s : St) : Value := .agg #[.int .i64 s.k, .int .i64 s.i, .int .u64 s.o, .int .u64 s.v]

theorem last_any {w : World} {p g cap : Nat} {s : St} (h : Mem w p g cap s) :
    Calls Try.prog 68 #[.pointer (some ⟨p, 0, none⟩)] w fun e w' => e = .returned (.agg #[.int .i64 s.k, .int .i64 s.i, .int .u64 s.o, .int .u64 s.v]) ∧ Below w.heap.size w w' := by
  have h2 : w.cell? ⟨p, 2, none⟩ = some (.int .i64 s.k) := h.blk.at_ 2
  have h3 : w.cell? ⟨p, 3, none⟩ = some (.int .i64 s.i) := h.blk.at_ 3
  have h4 : w.cell? ⟨p, 4, none⟩ = some (.int .u64 s.o) := h.blk.at_ 4
  have h5 : w.cell? ⟨p, 5, none⟩ = some (.int .u64 s.v) := h.blk.at_ 5
  have hl := h.blk.lt
  go_enter Try.func68, Try.ntmps68
  go_wp2
  exact bodyPost_ret (v := .agg #[.int .i64 s.k, .int .i64 s.i, .int .u64 s.o, .int .u64 s.v]) (by simp [results, Try.results68, go_sem]) rfl ⟨rfl, (Below.refl _ _).alloc (Nat.le_refl _) _⟩

/-- What slices.Clone gives: a row of the call's own, with the same cells. -/
def Cloned (w : World) (n : Nat) (X : List Int) (e : Ending) (w' : World) : Prop :=
  ∃ g cap : Nat, e = .returned (.slice (some ⟨g, 0, none⟩) n cap) ∧ w.heap.size ≤ g ∧ Row w' g n cap X ∧ Below w.heap.size w w'

theorem cloned_of {w w1 : World} {n : Nat} {X : List Int} {v' : Value} (hown : w1.ownsRow w.heap.size 39 1 v' (0 + n) ([] ++ X.map (Value.int .u64))) (hgrow : (w.alloc (.cells #[] 39)).grownBy w1 (Value.ownBlock (.slice (some ⟨w.heap.size, 0, none⟩) 0 0)))
    (hnil : v' = .slice none 0 0 ↔ Value.slice (some ⟨w.heap.size, 0, none⟩) 0 0 = .slice none 0 0 ∧ n = 0) :
    Cloned w n X (.returned v') w1 := by
  have hv : v' ≠ .slice none 0 0 := fun e => by
    have := hnil.1 e
    simp at this
  obtain ⟨g', cap', rfl, hB, hr⟩ := Row.of_own (n := n) (X := X) (by simpa using hown) hv
  exact ⟨g', cap', rfl, hB, hr, ((Below.refl _ _).alloc (Nat.le_refl _) _).grown hgrow (by simp) (by simp [Value.ownBlock])⟩

theorem clone_any {w : World} {g n cap : Nat} {X : List Int} (h : Row w g n cap X) (hn : n ≤ 131072) :
    Calls Try.prog 77 #[.slice (some ⟨g, 0, none⟩) n cap] w (Cloned w n X) := by
  have qT : ∀ (w : World) (a : Option Addr) (n c n' c' : Nat), (binOp .eql 44 (.slice a n c) (.slice none n' c')).run Try.prog w = .ok (.bool a.isNone) w := fun w a n c n' c' => Lib.run_eql_slice_nil w _ _ a n c n' c' Try.underlying44
  obtain ⟨i0, hi, hz0, hz1, hz2⟩ := info_parts info_u64
  go_enter Try.func77, Try.ntmps77
  go_wp2_with
    (at_builtin
     refine wpList_append_own_at _ rfl (.tmp 5) (.tmp 6) _ rfl w.heap.size 39 i0 _ 1 8 Try.underlying44 hi hz0 hz1 hz2 rfl (by omega) (.slice (some ⟨w.heap.size, 0, none⟩) 0 0) 0 [] rfl
       (World.ownsRow_made w #[] 0 (Nat.le_refl _) (by unfold maxLen; omega) rfl) ⟨g, 0, none⟩ n cap (X.map (Value.int .u64)) rfl (by simpa using h.len) ((h.alloc _).own.cells rfl) (by simp [Value.oneCell'])
       (by unfold maxLen; omega) (by omega) (by simp) ?_
     intro v' w1 hown hgrow hnil hat)
  go_ret
  exact cloned_of hown hgrow hnil

theorem cells_any {w : World} {p g cap : Nat} {s : St} (h : Mem w p g cap s) :
    Calls Try.prog 66 #[.pointer (some ⟨p, 0, none⟩)] w (Cloned w s.X.length s.X) := by
  have h0 : w.cell? ⟨p, 0, none⟩ = some (.slice (some ⟨g, 0, none⟩) s.X.length cap) := h.blk.at_ 0
  have H := Lib.hid (clone_any h.row h.small)
  have hN : ∀ e w', Cloned w s.X.length s.X e w' → ∃ v, e = .returned v ∧ Cloned w s.X.length s.X (.returned v) w' := fun e w' ⟨g', cap', he, hr⟩ => ⟨_, he, g', cap', rfl, hr⟩
  have HN := Lib.hid hN
  clear hN
  go_enter Try.func66, Try.ntmps66
  go_wp2_with fail
  refine H.out.mono ?_
  intro e w' hC
  obtain ⟨v, rfl, hC⟩ := HN.out e w' hC
  go_wp2
  go_ret
  exact hC
end Go.Proofs.Ytllllbepnnpeeaa

namespace Go.Proofs.Ytllllbepnnpeeaa
open Go Go.RowKit

theorem now_any {w : World} {p : Nat} {t d : Int} (h : Clk w p t d) :
    Calls Try.prog 71 #[.pointer (some ⟨p, 0, none⟩)] w fun e w' => e = .returned (.int .i64 t) ∧ w = w' := by
  have h0 : w.cell? ⟨p, 0, none⟩ = some (.int .i64 t) := Blk.at_ h 0
  go_enter Try.func71, Try.ntmps71
  go_wp2
  go_ret
  exact ⟨rfl, rfl⟩

end Go.Proofs.Ytllllbepnnpeeaa

namespace Go.Proofs.Ytllllbepnnpeeaa
open Go Go.RowKit Go.Shelf
set_option linter.unusedSimpArgs false

theorem eqFields_self (k : Nat) (vs : List Value) (u : World) : ∀ (fs : List Field) (is : List (TypeId × Nat)), fs.map (fun f => (f.name == "_", f.type, f.offset)) = is.map (fun i => (false, i.1, i.2)) →
    (∀ i ∈ is, ∃ v, vs[i.2]? = some v ∧ Try.prog.plainKey i.1 = true ∧ (Op.equalIn (k + 1) i.1 v v).run Try.prog u = .ok true u) → (Op.eqFields (k + 1) vs.toArray vs.toArray fs).run Try.prog u = .ok true u
  | [], [], _, _ => by simp [Op.eqFields]
  | [], _ :: _, h, _ => by simp at h
  | _ :: _, [], h, _ => by simp at h
  | f :: fs, i :: is, h, hl => by
    simp only [List.map_cons, List.cons.injEq, Prod.mk.injEq] at h
    obtain ⟨⟨hn, ht, ho⟩, hr⟩ := h
    obtain ⟨v, h1, h2, h3⟩ := hl i (by simp)
    have ih := eqFields_self k vs u fs is hr (fun j hj => hl j (by simp [hj]))
    have g : vs.toArray[f.offset]? = some v := by
      rw [ho]
      simpa using h1
    have hnm : f.name ≠ "_" := by simpa using hn
    have p1 := run_part_plain (P := Try.prog) u h2 g
    rw [← ht] at p1 h3
    simp only [Op.eqFields, hnm, ne_eq, not_false_eq_true, if_true, Sem.run_bind, p1, h3, Result.andThen_ok]
    simpa using ih
theorem qeq_u64 (k : Nat) (x : Int) (u : World) : (Op.equalIn (k + 1) 39 (.int .u64 x) (.int .u64 x)).run Try.prog u = .ok true u := by
  simp [Op.equalIn, run_underlying Try.underlying39]
theorem acc_eq (a b c d : Int) (u : World) : (binOp .eql 106 (.agg #[.int .i64 a, .int .i64 b, .int .u64 c, .int .u64 d]) (.agg #[.int .i64 a, .int .i64 b, .int .u64 c, .int .u64 d])).run Try.prog u = .ok (.bool true) u := by
  have h : (Op.equalIn 10000 106 (.agg #[.int .i64 a, .int .i64 b, .int .u64 c, .int .u64 d]) (.agg #[.int .i64 a, .int .i64 b, .int .u64 c, .int .u64 d])).run Try.prog u = .ok true u := by
    rw [show (10000 : Nat) = 9999 + 1 from rfl, run_equalIn_struct u 9999 106 _ _ (by kernel_rfl) (by kernel_rfl)]
    refine eqFields_self 9998 [.int .i64 a, .int .i64 b, .int .u64 c, .int .u64 d] u (Try.prog.fieldsOf 106).toList [(3, 0), (3, 1), (39, 2), (39, 3)] (by kernel_rfl) ?_
    have hp : Try.prog.plainKey 3 = true := by kernel_rfl
    have hp2 : Try.prog.plainKey 39 = true := by kernel_rfl
    have q1 : ∀ x, (Op.equalIn (9998 + 1) 3 (.int .i64 x) (.int .i64 x)).run Try.prog u = .ok true u := fun x => by
      have := qeq_int 9998 x x u
      rwa [beq_self_eq_true] at this
    intro i hi
    simp only [List.mem_cons, List.not_mem_nil, or_false] at hi
    rcases hi with rfl | rfl | rfl | rfl
    · exact ⟨_, rfl, hp, q1 a⟩
    · exact ⟨_, rfl, hp, q1 b⟩
    · exact ⟨_, rfl, hp2, qeq_u64 9998 c u⟩
    · exact ⟨_, rfl, hp2, qeq_u64 9998 d u⟩
  simp only [binOp, Op.equal, Op.maxDepth, Sem.run_bind, Sem.run_pure]
  rw [h]
  rfl

/-- An environment of the program (block p) and one of the reference (block q) that are equal. -/
structure Twin (w : World) (B p m k g cap : Nat) (hd : List Value) (rv ev : Value) (q : Nat) (a : EnvA) (s : St) (d : Int) (es : List Ev) (rs : List Rec) : Prop where
  e : PE w p m k g cap s a.now d hd rv ev
  v : OwnE w B ev es
  r : OwnR w B rv rs
  f : EnvF B w q a s es rs
theorem Twin.below {w w' : World} {B p m k g cap : Nat} {hd : List Value} {rv ev : Value} {q : Nat} {a : EnvA} {s : St} {d : Int} {es : List Ev} {rs : List Rec} (h : Twin w B p m k g cap hd rv ev q a s d es rs) (hb : Below w.heap.size w w') : Twin w' B p m k g cap hd rv ev q a s d es rs :=
  ⟨h.e.below hb, h.v.below hb, h.r.same (fun _ _ _ hk _ => hb.block _ (Array.getElem?_eq_some_iff.1 hk).1), h.f.below hb⟩

theorem keeprec_any {w : World} {v v' : Value} (h : Calls Try.prog 78 #[v, v'] w fun e w' => e = .returned (.bool true) ∧ Below w.heap.size w w') :
    Calls Try.prog 70 #[v, v'] w fun e w' => e = .returned (.bool true) ∧ Below w.heap.size w w' := by
  go_enter Try.func70, Try.ntmps70
  go_wp2_with fail
  (with_reducible refine h.mono ?_)
  rintro e w' ⟨rfl, hb⟩
  have HB := Lib.hid hb
  clear hb
  go_wp2
  go_ret
  exact ⟨rfl, HB.out⟩

/-- The cells that Same loads. -/
def SameC (p q m k : Nat) (ra : Option Addr) (rn rc : Nat) (va : Option Addr) (vn vc : Nat) (a : EnvA) (L : Nat) (s : St) (now : Int) (ra2 : Option Addr) (rc2 : Nat) (va2 : Option Addr) (vc2 : Nat) (w' : World) : Prop :=
  w'.cell? ⟨p, 20, none⟩ = some (.pointer (some ⟨m, 0, none⟩)) ∧ w'.cell? ⟨p, 21, none⟩ = some (.pointer (some ⟨k, 0, none⟩)) ∧ w'.cell? ⟨p, 22, none⟩ = some (.slice ra rn rc) ∧ w'.cell? ⟨p, 23, none⟩ = some (.slice va vn vc) ∧ w'.cell? ⟨q, 11, none⟩ = some (.slice (some ⟨a.g, 0, none⟩) L a.cap) ∧ w'.cell? ⟨q, 12, none⟩ = some (.int .i64 s.k) ∧ w'.cell? ⟨q, 13, none⟩ = some (.int .i64 s.i) ∧ w'.cell? ⟨q, 14, none⟩ = some (.int .u64 s.o) ∧ w'.cell? ⟨q, 15, none⟩ = some (.int .u64 s.v) ∧ w'.cell? ⟨q, 16, none⟩ = some (.int .i64 s.c) ∧ w'.cell? ⟨q, 17, none⟩ = some (.int .i64 now) ∧ w'.cell? ⟨q, 19, none⟩ = some (.slice ra2 rn rc2) ∧ w'.cell? ⟨q, 20, none⟩ = some (.slice va2 vn vc2)

set_option maxRecDepth 100000 in
set_option maxHeartbeats 8000000 in
theorem msame_any {w : World} {B p m k g cap : Nat} {hd : List Value} {rv ev : Value} {q : Nat} {a : EnvA} {s : St} {d : Int} {es : List Ev} {rs : List Rec} (h : Twin w B p m k g cap hd rv ev q a s d es rs) (hm : rs.length ≤ 1000000) :
    Calls Try.prog 45 #[.pointer (some ⟨p, 0, none⟩), .pointer (some ⟨q, 0, none⟩)] w fun e w' => e = .returned (.bool true) ∧ Below w.heap.size w w' := by
  obtain ⟨ra, rc, hr⟩ := h.r.form
  obtain ⟨va, vc, hv⟩ := h.v.form
  obtain ⟨ra2, rc2, hr2⟩ := h.f.rc.form
  obtain ⟨va2, vc2, hv2⟩ := h.f.ev.form
  obtain ⟨rn, hrn⟩ : ∃ rn, rs.length = rn := ⟨_, rfl⟩
  obtain ⟨vn, hvn⟩ : ∃ vn, es.length = vn := ⟨_, rfl⟩
  obtain ⟨L, hL⟩ : ∃ L, s.X.length = L := ⟨_, rfl⟩
  obtain ⟨now, hnow⟩ : ∃ now, a.now = now := ⟨_, rfl⟩
  rw [hrn] at hr hr2
  rw [hvn] at hv hv2
  have HT := Lib.hid (fun (W : World) (hW : Below w.heap.size w W) => h.below hW)
  have HC := Lib.hid (show ∀ W : World, Below w.heap.size w W → SameC p q m k ra rn rc va vn vc a L s now ra2 rc2 va2 vc2 W by
    intro W hW
    have h' := h.below hW
    unfold SameC
    rw [← hr, ← hv, ← hr2, ← hv2, ← hL, ← hnow]
    exact ⟨h'.e.at20, h'.e.at21, h'.e.at22, h'.e.at23, h'.f.m.blk.at_ 11, h'.f.m.blk.at_ 12, h'.f.m.blk.at_ 13, h'.f.m.blk.at_ 14, h'.f.m.blk.at_ 15, h'.f.m.blk.at_ 16, h'.f.m.blk.at_ 17, h'.f.m.blk.at_ 19, h'.f.m.blk.at_ 20⟩)
  have K1 := Lib.hid (show ∀ W : World, Below w.heap.size w W → Calls Try.prog 66 #[.pointer (some ⟨m, 0, none⟩)] W (fun e W' => ∃ g2 c2, e = .returned (.slice (some ⟨g2, 0, none⟩) L c2) ∧ Row W' g2 L c2 s.X ∧ Below w.heap.size w W') by
    intro W hW
    refine (cells_any (h.below hW).e.mem).mono ?_
    rintro e W' ⟨g2, c2, rfl, _, hrow, hb⟩
    rw [hL] at hrow ⊢
    exact ⟨g2, c2, rfl, hrow, hW.trans (hb.mono hW.size)⟩)
  have K2 := Lib.hid (show ∀ (W : World) (g2 c2 : Nat), Below w.heap.size w W → Row W g2 L c2 s.X → Calls Try.prog 65 #[.slice (some ⟨g2, 0, none⟩) L c2, .slice (some ⟨a.g, 0, none⟩) L a.cap] W (fun e W' => e = .returned (.bool true) ∧ Below w.heap.size w W') by
    intro W g2 c2 hW hrow
    have hr9 := (h.below hW).f.m.row
    rw [hL] at hr9
    refine (wsame_any hrow hr9).mono ?_
    rintro e W' ⟨rfl, d9, rfl⟩
    exact ⟨rfl, hW.trans ((below_drewN _ _).mono hW.size)⟩)
  have K3 := Lib.hid (show ∀ W : World, Below w.heap.size w W → Calls Try.prog 67 #[.pointer (some ⟨m, 0, none⟩)] W (fun e W' => e = .returned (.int .i64 s.c) ∧ Below w.heap.size w W') by
    intro W hW
    refine (count_any (h.below hW).e.mem).mono ?_
    rintro e W' ⟨rfl, rfl⟩
    exact ⟨rfl, hW⟩)
  have K4 := Lib.hid (show ∀ W : World, Below w.heap.size w W → Calls Try.prog 68 #[.pointer (some ⟨m, 0, none⟩)] W (fun e W' => e = .returned (.agg #[.int .i64 s.k, .int .i64 s.i, .int .u64 s.o, .int .u64 s.v]) ∧ Below w.heap.size w W') by
    intro W hW
    refine (last_any (h.below hW).e.mem).mono ?_
    rintro e W' ⟨rfl, hb⟩
    exact ⟨rfl, hW.trans (hb.mono hW.size)⟩)
  have K5 := Lib.hid (show ∀ W : World, Below w.heap.size w W → Calls Try.prog 69 #[.slice va vn vc, .slice va2 vn vc2] W (fun e W' => e = .returned (.bool true) ∧ Below w.heap.size w W') by
    intro W hW
    have h' := h.below hW
    obtain ⟨a1, c1, e1, i1⟩ := h'.v.inE
    obtain ⟨a2, c2, e2, i2⟩ := h'.f.ev.inE
    rw [hv] at e1
    rw [hv2] at e2
    rw [hvn] at e1 e2
    cases e1
    cases e2
    have hs := evsame_any i1 i2 vc vc2
    rw [hvn] at hs
    refine hs.mono ?_
    rintro e W' ⟨rfl, d9, rfl⟩
    rw [decide_eq_true rfl]
    exact ⟨rfl, hW.trans ((below_drewN _ _).mono hW.size)⟩)
  have K6 := Lib.hid (show ∀ W : World, Below w.heap.size w W → Calls Try.prog 70 #[.slice ra rn rc, .slice ra2 rn rc2] W (fun e W' => e = .returned (.bool true) ∧ Below w.heap.size w W') by
    intro W hW
    have h' := h.below hW
    have hs := recsame_any h'.r h'.f.rc hm
    rw [hr, hr2] at hs
    refine (keeprec_any hs).mono ?_
    rintro e W' ⟨rfl, hb⟩
    exact ⟨rfl, hW.trans (hb.mono hW.size)⟩)
  have K7 := Lib.hid (show ∀ W : World, Below w.heap.size w W → Calls Try.prog 71 #[.pointer (some ⟨k, 0, none⟩)] W (fun e W' => e = .returned (.int .i64 now) ∧ Below w.heap.size w W') by
    intro W hW
    have h' := h.below hW
    refine (now_any h'.e.clk).mono ?_
    rintro e W' ⟨rfl, rfl⟩
    rw [hnow]
    exact ⟨rfl, hW⟩)
  have hae := fun (W : World) => acc_eq s.k s.i s.o s.v W
  clear h hr hv hr2 hv2 hrn hvn hL hnow hm
  have hd0 : Below w.heap.size w w.drew := below_drew (Below.refl _ _)
  have c0 := HC.out w.drew hd0
  unfold SameC at c0
  go_enter Try.func45, Try.ntmps45
  go_wp2_with fail
  simp only [List.append]
  go_region_held3 (fun w' => w'.cell? ⟨p, 20, none⟩ = some (.pointer (some ⟨m, 0, none⟩)) ∧ w'.cell? ⟨p, 21, none⟩ = some (.pointer (some ⟨k, 0, none⟩)) ∧ w'.cell? ⟨p, 22, none⟩ = some (.slice ra rn rc) ∧ w'.cell? ⟨p, 23, none⟩ = some (.slice va vn vc) ∧ w'.cell? ⟨q, 11, none⟩ = some (.slice (some ⟨a.g, 0, none⟩) L a.cap) ∧ w'.cell? ⟨q, 12, none⟩ = some (.int .i64 s.k) ∧ w'.cell? ⟨q, 13, none⟩ = some (.int .i64 s.i) ∧ w'.cell? ⟨q, 14, none⟩ = some (.int .u64 s.o) ∧ w'.cell? ⟨q, 15, none⟩ = some (.int .u64 s.v) ∧ w'.cell? ⟨q, 16, none⟩ = some (.int .i64 s.c) ∧ w'.cell? ⟨q, 17, none⟩ = some (.int .i64 now) ∧ w'.cell? ⟨q, 19, none⟩ = some (.slice ra2 rn rc2) ∧ w'.cell? ⟨q, 20, none⟩ = some (.slice va2 vn vc2)) ((first | exact c7 | exact c6 | exact c5 | exact c4 | exact c3 | exact c2 | exact c1 | exact c0 | go_keep))
    (first
     | (go_at_call 66
        refine (K1.out _ hd0).mono ?_
        rintro e W1 ⟨g2, cg2, rfl, hrow, hd1⟩
        have c1 := HC.out W1 hd1
        unfold SameC at c1)
     | (go_at_call 65
        refine (K2.out _ _ _ hd1 hrow).mono ?_
        rintro e W2 ⟨rfl, hd2⟩
        have c2 := HC.out W2 hd2
        unfold SameC at c2)
     | (go_at_call 67
        refine (K3.out _ hd2).mono ?_
        rintro e W3 ⟨rfl, hd3⟩
        have c3 := HC.out W3 hd3
        unfold SameC at c3)
     | (go_at_call 68
        refine (K4.out _ hd3).mono ?_
        rintro e W4 ⟨rfl, hd4⟩
        have c4 := HC.out W4 hd4
        unfold SameC at c4)
     | (go_at_call 69
        refine (K5.out _ hd4).mono ?_
        rintro e W5 ⟨rfl, hd5⟩
        have c5 := HC.out W5 hd5
        unfold SameC at c5)
     | (go_at_call 70
        refine (K6.out _ hd5).mono ?_
        rintro e W6 ⟨rfl, hd6⟩
        have c6 := HC.out W6 hd6
        unfold SameC at c6)
     | (go_at_call 71
        refine (K7.out _ hd6).mono ?_
        rintro e W7 ⟨rfl, hd7⟩
        have c7 := HC.out W7 hd7
        unfold SameC at c7))
  go_wp2_with fail
  go_ret
  exact ⟨rfl, hd7⟩
end Go.Proofs.Ytllllbepnnpeeaa
