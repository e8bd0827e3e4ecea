/-
  Pure: Enter alone is done within eight steps, whatever the memory contains, and leaves the task ready.
  Bytes that came in.
  An == between two structs of ints.
  The reference's Same: are two lists of events equal?
-/
import Derived.Test.YtgipddeldddbnaaGreatTbF
import Derived.Test.YtgipddeldddbnaaGreatTbL
import Derived.Test.YtgipddeldddbnaaGreatMgAA
import Derived.Test.YtgipddeldddbnaaGreatMgAD
import Derived.ChangeKeysEq
import Derived.Test.YtgipddeldddbnaaGreatMgAN
import Derived.LoopTactic
import Derived.Deep.QuietTactic
import Derived.BigQuiet
import Derived.Lib.Hide
namespace Go.Proofs.YtgipddeldddbnaaGreat
open Go Go.RowKit
set_option linter.unusedSimpArgs false
set_option linter.unusedVariables false

/-- No cell of a deque and no bitmap is a cell of a task. -/
theorem queue_apart {c : Cfg} (hin : CfgIn c) {t k w l : Int} (ht : isT c t = true) (hk : 0 ≤ k) : (rQueue c w l).2.1 ≠ rTask c t k ∧ (∀ i, ringI (rQueue c w l).2.2.1 (rQueue c w l).2.2.2 i ≠ rTask c t k) ∧ rBitmap c w ≠ rTask c t k := by
  obtain ⟨h0, h1⟩ := isT_iff.1 ht
  have hd := hin.deques
  have ha := hin.all
  have h3 := hin.he
  have h4 := hin.cl
  have h5 := hin.wo
  have hj : rDeques c + rAll c ≤ rTask c t k := by
    have e : ixs (rDeques c + rAll c) t c.ta 5 = rDeques c + rAll c + t * 5 := by unfold ixs; rw [if_neg (by omega)]
    unfold rTask
    rw [e, if_neg (by omega)]
    omega
  refine ⟨?_, fun i => ?_, ?_⟩
  · unfold rQueue
    split
    · rename_i hq
      have := hin.at_ hq
      have := hin.de
      show rAt c w l + 1 ≠ _
      unfold rAt
      omega
    · show (-1 : Int) ≠ _
      omega
  · unfold rQueue
    split
    · rename_i hq
      have := hin.at_ hq
      have hde := hin.de
      show ringI (rAt c w l + 2) c.de i ≠ _
      unfold ringI
      rw [if_neg (by omega)]
      have h1 := Int.emod_nonneg i (show c.de ≠ 0 by omega)
      have h2 := Int.emod_lt_of_pos i (show 0 < c.de by omega)
      generalize i % c.de = z at *
      unfold rAt
      have e1 : wrap64 z = z := by unfold wrap64; omega
      rw [e1]
      have e2 : wrap64 (rDeques c + (w * c.le + l) * (2 + c.de) + 2 + z) = rDeques c + (w * c.le + l) * (2 + c.de) + 2 + z := by unfold wrap64; omega
      rw [e2]
      omega
    · show ringI (-1) 0 i ≠ _
      unfold ringI
      rw [if_pos (by decide)]
      omega
  · unfold rBitmap ixs
    split
    · omega
    · unfold rDeques at hj hd
      omega
theorem inner_run {c : Cfg} (hin : CfgIn c) {t k : Int} (ht : isT c t = true) (hk : 0 ≤ k) (s : St) (a l v : Int) : ∃ s' r n, RunM (lvS c) s (fraLP a l v, none) s' r n ∧ n ≤ 5 ∧ (s'.has (rTask c t k) ↔ s.has (rTask c t k)) ∧ s'.old (rTask c t k) = s.old (rTask c t k) := by
  obtain ⟨q1, q2, q3⟩ := queue_apart hin (w := a) (l := l) ht hk
  have hn : ¬ ((fraLP a l v).kd = 6 ∧ (fraLP a l v).ln = 1) := by intro h; exact absurd (show (5 : Int) = 6 from h.1) (by decide)
  have hn2 : ¬ (({ fraLP a l v with ln := 2 } : Fra).kd = 6 ∧ ({ fraLP a l v with ln := 2 } : Fra).ln = 1) := by intro h; exact absurd (show (5 : Int) = 6 from h.1) (by decide)
  have hch : lvChild c (fraLP a l v) = fra1 0 (rQueue c a l).1 (rQueue c a l).2.1 (rQueue c a l).2.2.1 (rQueue c a l).2.2.2 v := by
    unfold lvChild
    rw [if_pos rfl, if_pos rfl]
  generalize rQueue c a l = q at *
  obtain ⟨qt, qb, qr, qc⟩ := q
  generalize rTask c t k = J at *
  -- the first step
  have e1 : lvK s ((none : Option Fra).getD (lvChild c (fraLP a l v))) = (s.go 1 qb id, { fra1 0 qt qb qr qc v with fu := s.old qb, ln := 2 }, .none) := by
    show lvK s (lvChild c (fraLP a l v)) = _
    rw [hch, lvK_push _ _ rfl]
    unfold pushS
    rw [if_pos rfl]
  have s1 := lvS_in (c := c) (s := s) (f := fraLP a l v) (g := none) hn (by rw [e1])
  rw [e1] at s1
  generalize hs1 : s.go 1 qb id = sa at *
  generalize s.old qb = fu at *
  have A1 : (sa.has J ↔ s.has J) ∧ sa.old J = s.old J := by rw [← hs1]; exact ⟨go_has .., go_id_old ..⟩
  by_cases hful : qc ≤ sizeI fu (sa.old qt)
  · have e2 : lvK sa ((some ({ fra1 0 qt qb qr qc v with fu := fu, ln := 2 } : Fra)).getD (lvChild c (fraLP a l v))) = (sa.go 1 qt id, { fra1 0 qt qb qr qc v with fu := fu, fv := sa.old qt, ln := 2 }, ⟨true, 3, 0⟩) := by
      show lvK sa { fra1 0 qt qb qr qc v with fu := fu, ln := 2 } = _
      rw [lvK_push _ _ rfl]
      unfold pushS
      rw [if_neg (show ¬ (2 : Int) = 1 by decide), if_pos rfl, if_pos hful]
    have s2 := lvS_out (c := c) (s := sa) (f := fraLP a l v) (g := some { fra1 0 qt qb qr qc v with fu := fu, ln := 2 }) hn (by rw [e2])
    rw [e2] at s2
    have eb : lvBack (fraLP a l v) 3 0 = (fraLP a l v, ⟨true, 3, 0⟩) := by
      unfold lvBack
      rw [if_pos rfl, if_pos (.inr rfl)]
    rw [eb] at s2
    refine ⟨_, _, 2, .cons (by rw [s1]) (by rw [s1]; exact .last (by rw [s2])), by omega, ?_⟩
    rw [s2]
    exact ⟨(go_has ..).trans A1.1, (go_id_old ..).trans A1.2⟩
  · have e2 : lvK sa ((some ({ fra1 0 qt qb qr qc v with fu := fu, ln := 2 } : Fra)).getD (lvChild c (fraLP a l v))) = (sa.go 1 qt id, { fra1 0 qt qb qr qc v with fu := fu, fv := sa.old qt, ln := 3 }, .none) := by
      show lvK sa { fra1 0 qt qb qr qc v with fu := fu, ln := 2 } = _
      rw [lvK_push _ _ rfl]
      unfold pushS
      rw [if_neg (show ¬ (2 : Int) = 1 by decide), if_pos rfl, if_neg hful]
    have s2 := lvS_in (c := c) (s := sa) (f := fraLP a l v) (g := some { fra1 0 qt qb qr qc v with fu := fu, ln := 2 }) hn (by rw [e2])
    rw [e2] at s2
    generalize hs2 : sa.go 1 qt id = sb at *
    generalize sa.old qt = fv at *
    have A2 : (sb.has J ↔ s.has J) ∧ sb.old J = s.old J := by rw [← hs2]; exact ⟨(go_has ..).trans A1.1, (go_id_old ..).trans A1.2⟩
    have e3 : lvK sb ((some ({ fra1 0 qt qb qr qc v with fu := fu, fv := fv, ln := 3 } : Fra)).getD (lvChild c (fraLP a l v))) = (sb.go 2 (ringI qr qc fu) (fun _ => IntKind.u64.wrap v), { fra1 0 qt qb qr qc v with fu := fu, fv := fv, ln := 4 }, .none) := by
      show lvK sb { fra1 0 qt qb qr qc v with fu := fu, fv := fv, ln := 3 } = _
      rw [lvK_push _ _ rfl]
      unfold pushS
      rw [if_neg (show ¬ (3 : Int) = 1 by decide), if_neg (show ¬ (3 : Int) = 2 by decide), if_pos rfl]
    have s3 := lvS_in (c := c) (s := sb) (f := fraLP a l v) (g := some { fra1 0 qt qb qr qc v with fu := fu, fv := fv, ln := 3 }) hn (by rw [e3])
    rw [e3] at s3
    generalize hs3 : sb.go 2 (ringI qr qc fu) (fun _ => IntKind.u64.wrap v) = sc at *
    have A3 : (sc.has J ↔ s.has J) ∧ sc.old J = s.old J := by rw [← hs3]; exact ⟨(go_has ..).trans A2.1, (go_other _ _ _ _ _ (q2 fu)).trans A2.2⟩
    have e4 : lvK sc ((some ({ fra1 0 qt qb qr qc v with fu := fu, fv := fv, ln := 4 } : Fra)).getD (lvChild c (fraLP a l v))) = (sc.go 2 qb (fun _ => IntKind.u64.wrap (fu + 1)), { fra1 0 qt qb qr qc v with fu := fu, fv := fv, ln := 4 }, ⟨true, 0, 0⟩) := by
      show lvK sc { fra1 0 qt qb qr qc v with fu := fu, fv := fv, ln := 4 } = _
      rw [lvK_push _ _ rfl]
      unfold pushS
      rw [if_neg (show ¬ (4 : Int) = 1 by decide), if_neg (show ¬ (4 : Int) = 2 by decide), if_neg (show ¬ (4 : Int) = 3 by decide)]
    have s4 := lvS_out (c := c) (s := sc) (f := fraLP a l v) (g := some { fra1 0 qt qb qr qc v with fu := fu, fv := fv, ln := 4 }) hn (by rw [e4])
    rw [e4] at s4
    have eb : lvBack (fraLP a l v) 0 0 = ({ fraLP a l v with ln := 2 }, .none) := by
      unfold lvBack
      rw [if_pos rfl, if_neg (show ¬ ((1 : Int) = 2 ∨ (0 : Int) = 3) by decide)]
    rw [eb] at s4
    generalize hs4 : sc.go 2 qb (fun _ => IntKind.u64.wrap (fu + 1)) = sd at *
    have A4 : (sd.has J ↔ s.has J) ∧ sd.old J = s.old J := by rw [← hs4]; exact ⟨(go_has ..).trans A3.1, (go_other _ _ _ _ _ q1).trans A3.2⟩
    have hch2 : lvChild c { fraLP a l v with ln := 2 } = { fra1 3 0 0 0 0 (rBitmap c a) with fb := l } := by
      unfold lvChild
      rw [if_pos rfl, if_neg (show ¬ (2 : Int) = 1 by decide)]
    have e5 : lvK sd ((none : Option Fra).getD (lvChild c { fraLP a l v with ln := 2 })) = (sd.go 4 (rBitmap c a) (fun x => bits .or .u64 x (maskS l)), { fra1 3 0 0 0 0 (rBitmap c a) with fb := l }, ⟨true, 0, 0⟩) := by
      show lvK sd (lvChild c { fraLP a l v with ln := 2 }) = _
      rw [hch2, lvK_set _ _ rfl]
      rfl
    have s5 := lvS_out (c := c) (s := sd) (f := { fraLP a l v with ln := 2 }) (g := none) hn2 (by rw [e5])
    rw [e5] at s5
    have eb2 : lvBack { fraLP a l v with ln := 2 } 0 0 = ({ fraLP a l v with ln := 2 }, ⟨true, 0, 0⟩) := by
      unfold lvBack
      rw [if_pos rfl, if_pos (.inl rfl)]
    rw [eb2] at s5
    refine ⟨_, _, 5, .cons (by rw [s1]) (by rw [s1]; exact .cons (by rw [s2]) (by rw [s2]; exact .cons (by rw [s3]) (by rw [s3]; exact .cons (by rw [s4]) (by rw [s4]; exact .last (by rw [s5]))))), by omega, ?_⟩
    rw [s5]
    exact ⟨(go_has ..).trans A4.1, (go_other _ _ _ _ _ q3).trans A4.2⟩
/-- Line 4 runs the inner machine to its end. -/
theorem RunX.line4 {c : Cfg} {t : Int} {y : List Rec × List Ev} {f : Fra} (h4 : f.ln = 4) {s s' : St} {x : Fra × Option Fra} {r : Res} {n : Nat} (hr : RunM (lvS c) s x s' r n) : ∀ o : Option (Fra × Option Fra), o.getD (fraLP f.fa f.ft f.fb, none) = x → RunX (entX c t) (s, y) (f, o) (s', y) ⟨true, r.cd, f.ft⟩ n := by
  induction hr with
  | @last s x h =>
    intro o ho
    have e : entX c t (s, y) (f, o) = (((lvS c s x).1, y), (f, none), ⟨true, (lvS c s x).2.2.cd, f.ft⟩) := by
      unfold entX
      simp only [h4, if_true, ho, h]
    have h2 := RunX.last (stp := entX c t) (s := (s, y)) (x := (f, o)) (by rw [e])
    rw [e] at h2
    exact h2
  | @cons s s' x r n h _ ih =>
    intro o ho
    have e : entX c t (s, y) (f, o) = (((lvS c s x).1, y), (f, some (lvS c s x).2.1), .none) := by
      unfold entX
      simp only [h4, if_true, ho, h, Bool.false_eq_true, if_false]
    refine .cons (by rw [e]) ?_
    rw [e]
    exact ih (some (lvS c s x).2.1) rfl
theorem enter_run {c : Cfg} (hin : CfgIn c) {t : Int} (ht : isT c t = true) (tm : Int) (s : St) (y : List Rec × List Ev) (a : Int) : ∃ s' r n, RunX (entX c tm) (s, y) (fraEn a t, none) (s', y) r n ∧ n ≤ 8 ∧ (s.has (rTask c t 0) → s'.has (rTask c t 0) ∧ s'.old (rTask c t 0) = 1) := by
  have e1 : entX c tm (s, y) (fraEn a t, none) = ((s.go 2 (rTask c t 4) (fun _ => IntKind.u64.wrap tm), y), ({ fraEn a t with ln := 2 }, none), .none) := by
    unfold entX entS
    simp only [show ¬ (1 : Int) = 4 by decide, if_false, ht, if_true]
  generalize hs1 : s.go 2 (rTask c t 4) (fun _ => IntKind.u64.wrap tm) = sa at *
  have e2 : entX c tm (sa, y) ({ fraEn a t with ln := 2 }, none) = ((sa.go 2 (rTask c t 0) (fun _ => 1), y), ({ fraEn a t with ln := 3 }, none), .none) := by
    unfold entX entS
    simp only [show ¬ (2 : Int) = 4 by decide, show ¬ (2 : Int) = 1 by decide, if_false, ht, if_true]
  generalize hs2 : sa.go 2 (rTask c t 0) (fun _ => 1) = sb at *
  have e3 : entX c tm (sb, y) ({ fraEn a t with ln := 3 }, none) = ((sb.go 1 (rTask c t 1) id, y), ({ fraEn a t with ft := IntKind.i64.wrap (sb.old (rTask c t 1)), ln := 4 }, none), .none) := by
    unfold entX entS
    simp only [show ¬ (3 : Int) = 4 by decide, show ¬ (3 : Int) = 1 by decide, show ¬ (3 : Int) = 2 by decide, if_false, ht, if_true]
  obtain ⟨s', r, n, hr, hn, hh, ho⟩ := inner_run hin ht (Int.le_refl 0) (sb.go 1 (rTask c t 1) id) a (IntKind.i64.wrap (sb.old (rTask c t 1))) t
  have h4 := RunX.line4 (t := tm) (y := y) (f := { fraEn a t with ft := IntKind.i64.wrap (sb.old (rTask c t 1)), ln := 4 }) rfl hr none rfl
  refine ⟨s', _, _, .cons (by rw [e1]) (by rw [e1]; exact .cons (by rw [e2]) (by rw [e2]; exact .cons (by rw [e3]) (by rw [e3]; exact h4))), by omega, fun hs => ?_⟩
  have h1 : sa.has (rTask c t 0) := by rw [← hs1]; exact (go_has ..).2 hs
  have h2 : sb.has (rTask c t 0) := by rw [← hs2]; exact (go_has ..).2 h1
  refine ⟨hh.2 ((go_has ..).2 h2), ?_⟩
  rw [ho, go_id_old, ← hs2, go_old _ _ _ _ h1]
end Go.Proofs.YtgipddeldddbnaaGreat

namespace Go.Proofs.YtgipddeldddbnaaGreat
open Go Go.ChangeShapes Go.WideShapes Go.ChangeAt Go.RowKit
set_option linter.unusedSimpArgs false

/-- The slice (a, n) reads as the bytes zs. -/
def InBytes (w : World) (a : Option Addr) (n : Nat) (zs : List Int) : Prop :=
  zs.length = n ∧ n ≤ maxLen ∧ ∀ i, i < n → ∃ x : Addr, a = some x ∧ x.block < w.heap.size ∧ w.cell? (x.add i) = some (.int .u8 (zs.getD i 0)) ∧ 0 ≤ zs.getD i 0 ∧ zs.getD i 0 ≤ 255

theorem InBytes.below {w w' : World} {a : Option Addr} {n : Nat} {zs : List Int} (h : InBytes w a n zs) (hb : Below w.heap.size w w') : InBytes w' a n zs :=
  ⟨h.1, h.2.1, fun i hi => by
    obtain ⟨x, e, hx, hc, hr⟩ := h.2.2 i hi
    refine ⟨x, e, Nat.lt_of_lt_of_le hx hb.size, ?_, hr⟩
    rw [hb.cell (by rw [show (x.add i).block = x.block by unfold Addr.add; split <;> rfl]; exact hx)]
    exact hc⟩
theorem InBytes.drew {w : World} {a : Option Addr} {n : Nat} {zs : List Int} (h : InBytes w a n zs) : InBytes w.drew a n zs := h

set_option maxRecDepth 100000 in
theorem open_bytes {H : Type} {enc : TypeId × Value → H} {w : World} {base b0 : Nat} {spare : Nat → Bool} {held : Bool} {r : Reach} {v : Value} {d : DataW H} {p : List MemPlace}
    (hv : Value.okWide Tryz.prog w r b0 22 v) (h : DataW.Trod enc Tryz.prog w base spare held 22 v d p) :
    ∃ (a : Option Addr) (n c : Nat) (zs : List Int), v = .slice a n c ∧ InBytes w a n zs := by
  obtain ⟨a, n, c, rfl⟩ := okWide_slice Tryz.underlying22 hv
  obtain ⟨fuel, hf⟩ := h
  rcases open_ints Tryz.underlying22 Tryz.underlying5 (by kernel_rfl) hf with ⟨hcs, _⟩ | ⟨x, l, c', zs, hcs, _, hl, hm, hz, _, hcell, hwf⟩
  · simp [Value.cells] at hcs
    obtain ⟨rfl, rfl, rfl⟩ := hcs
    exact ⟨_, _, _, [], rfl, rfl, by simp, fun i hi => absurd hi (by omega)⟩
  · simp [Value.cells] at hcs
    obtain ⟨rfl, rfl, rfl⟩ := hcs
    have hnz : n ≤ zs.length := by rw [hz]; split <;> omega
    refine ⟨_, _, _, zs.take n, rfl, by simp; omega, by omega, fun i hi => ⟨x, rfl, ?_, ?_, ?_⟩⟩
    · have := World.block_lt_of_cell? w _ (hcell i (by omega))
      rwa [show (x.add i).block = x.block by unfold Addr.add; split <;> rfl] at this
    · rw [hcell i (by omega), List.getD_eq_getElem?_getD, List.getD_eq_getElem?_getD, List.getElem?_take, if_pos hi]
    · have hi' : i < zs.length := by omega
      have hw := hwf (zs[i]) (List.getElem_mem hi')
      have e : (zs.take n).getD i 0 = zs[i] := by
        rw [List.getD_eq_getElem?_getD, List.getElem?_take, if_pos hi, List.getElem?_eq_getElem hi']
        rfl
      rw [e]
      simp only [Lit.wf, Bool.and_eq_true, decide_eq_true_eq] at hw
      have h0 : IntKind.u8.min = 0 := rfl
      have h1 : IntKind.u8.max = 255 := rfl
      rw [h0, h1] at hw
      exact hw
end Go.Proofs.YtgipddeldddbnaaGreat

namespace Go.Proofs.YtgipddeldddbnaaGreat
open Go Go.RowKit

theorem qeq_int (k : Nat) (x y : Int) (u : World) : (Op.equalIn (k + 1) 3 (.int .i64 x) (.int .i64 y)).run Tryz.prog u = .ok (x == y) u := by
  simp [Op.equalIn, run_underlying Tryz.underlying3]
theorem eqFields_ints (k : Nat) (xs ys : List Int) (u : World) : ∀ (fs : List Field) (is : List Nat), fs.map (fun f => (f.name == "_", f.type, f.offset)) = is.map (fun i => (false, 3, i)) → (∀ i ∈ is, i < xs.length ∧ i < ys.length) →
    (Op.eqFields (k + 1) (xs.map (Value.int .i64)).toArray (ys.map (Value.int .i64)).toArray fs).run Tryz.prog u = .ok (is.all fun i => xs.getD i 0 == ys.getD i 0) u
  | [], [], _, _ => by simp [Op.eqFields]
  | [], _ :: _, h, _ => by simp at h
  | _ :: _, [], h, _ => by simp at h
  | f :: fs, i :: is, h, hl => by
    simp only [List.map_cons, List.cons.injEq, Prod.mk.injEq] at h
    obtain ⟨⟨hn, ht, ho⟩, hr⟩ := h
    have hp : Tryz.prog.plainKey 3 = true := by kernel_rfl
    obtain ⟨h1, h2⟩ := hl i (by simp)
    have ih := eqFields_ints k xs ys u fs is hr (fun j hj => hl j (by simp [hj]))
    have g : ∀ zs : List Int, i < zs.length → (zs.map (Value.int .i64)).toArray[f.offset]? = some (.int .i64 (zs.getD i 0)) := by
      intro zs hz
      rw [ho]
      simp [hz]
    have hnm : f.name ≠ "_" := by simpa using hn
    have p1 := run_part_plain (P := Tryz.prog) u hp (g xs h1)
    have p2 := run_part_plain (P := Tryz.prog) u hp (g ys h2)
    rw [← ht] at p1 p2
    have p3 := qeq_int k (xs.getD i 0) (ys.getD i 0) u
    rw [← ht] at p3
    simp only [Op.eqFields, hnm, ne_eq, not_false_eq_true, if_true, Sem.run_bind, p1, p2, p3, Result.andThen_ok, List.all_cons]
    cases hb : (xs.getD i 0 == ys.getD i 0) with
    | false => simp
    | true => simpa using ih
end Go.Proofs.YtgipddeldddbnaaGreat

namespace Go.Proofs.YtgipddeldddbnaaGreat
open Go Go.RowKit
set_option linter.unusedSimpArgs false

theorem ev_eq (x y : Ev) (u : World) : (Op.equalIn 10000 48 (.agg (evV x)) (.agg (evV y))).run Tryz.prog u = .ok (decide (x = y)) u := by
  rw [show (10000 : Nat) = 9999 + 1 from rfl, run_equalIn_struct u 9999 48 _ _ (by kernel_rfl) (by kernel_rfl)]
  have h := eqFields_ints 9998 [x.kd, x.wk, x.tk, x.ot, x.lv] [y.kd, y.wk, y.tk, y.ot, y.lv] u (Tryz.prog.fieldsOf 48).toList [0, 1, 2, 3, 4] (by kernel_rfl) (by simp)
  simp only [List.map_cons, List.map_nil] at h
  refine h.trans (congrArg (fun b => Result.ok b u) ?_)
  clear h
  rw [Bool.eq_iff_iff, decide_eq_true_iff]
  obtain ⟨x0, x1, x2, x3, x4⟩ := x
  obtain ⟨y0, y1, y2, y3, y4⟩ := y
  simp
theorem ev_ne (x y : Ev) (u : World) : (binOp .neq 48 (.agg (evV x)) (.agg (evV y))).run Tryz.prog u = .ok (.bool (!decide (x = y))) u := by
  simp only [binOp, Op.equal, Op.maxDepth, Sem.run_bind, Sem.run_pure]
  rw [ev_eq x y u]
  rfl

/-- What Same gives. -/
def SameR (xs ys : List Ev) (w : World) (e : Ending) (w' : World) : Prop := e = .returned (.bool (decide (xs = ys))) ∧ ∃ d, w' = w.drewN d

theorem etake_more {zs ys : List Ev} {j : Nat} {u : Ev} (h1 : zs[j]? = some u) (h2 : ys[j]? = some u) (ht : zs.take j = ys.take j) : zs.take (j + 1) = ys.take (j + 1) := by
  rw [List.take_add_one, List.take_add_one, ht, h1, h2]

end Go.Proofs.YtgipddeldddbnaaGreat
