/-
  Package parts: On; package owner: Push and Pop; the methods of their machines. (Written by wip/gen_alone.py.)
  Package thief: Steal; the methods of its machine. (Written by wip/gen_alone.py.)
  What an access changes of a memory's state. No function is named.
  Plain mathematics of a memory's states: words are not negative, accesses are counted. No function is named.
  Plain mathematics: the steps of a machine until it is done. No function is named.
  Plain mathematics of a deque as words. No function is named.
-/
import Derived.Test.YtjehiekmlbeaeaaGreatMgAD
import Derived.Test.YtjehiekmlbeaeaaGreatOwC
import Derived.Test.YtjehiekmlbeaeaaGreatMgAB
import Derived.StillTailTactics
import Derived.Test.YtjehiekmlbeaeaaGreatMgAA
namespace Go.Proofs.YtjehiekmlbeaeaaGreat
open Go Go.RowKit Go.Shelf
set_option linter.unusedSimpArgs false

abbrev begcells : Array Value := #[.int .i64 1, .int .i64 0, .int .i64 0]
abbrev dzero : Array Value := #[.int .i64 0, .int .i64 0, .int .i64 0, .int .i64 0, .int .i64 0, .int .i64 0, .int .i64 0, .int .u64 0, .int .u64 0]
theorem lbegin_any (w : World) : Calls Tryz.prog 108 #[] w fun e w' => e = .returned (.agg begcells) ∧ Below w.heap.size w w' := by
  have HB := Lib.hid (below_one w (.cells begcells 181))
  have HX := Lib.hid (Blk.made w 181 begcells)
  go_enter Tryz.func108, Tryz.ntmps108
  go_wp2
  refine bodyPost_ret (results_cell_row (P := Tryz.prog) Tryz.results108 _ _ w.heap.size 181 _ (0, 0) _ rfl HX.out Tryz.underlying181 rfl (by kernel_rfl)) rfl ?_
  exact ⟨rfl, HB.out⟩

theorem fr_rowP (w : World) (g : Nat) (cs : Array Value) : Fr [g] w (w.setRow g cs) := ⟨rfl, rfl, rfl, by simp, fun k _ hn => setRow_other w g k cs (fun e => hn (by simp [e]))⟩
set_option maxRecDepth 100000 in
set_option maxHeartbeats 2000000 in
theorem on_any (t b r k : Int) (w : World) : Calls Tryz.prog 162 #[qv t b r k] w fun e w' => e = .returned (.agg (ocells (fra1 0 t b r k 0) 0 0).toArray) ∧ Below w.heap.size w w' := by
  have hX := Blk.made w 91 (qcells t b r k)
  have hB := below_one w (.cells (qcells t b r k) 91)
  have hY := fun V => Blk.made V 261 dzero
  go_enter Tryz.func162, Tryz.ntmps162
  go_upto_region 1 with fail
  have hsz : (w.alloc (.cells (qcells t b r k) 91)).heap.size = w.heap.size + 1 := by simp
  rw [← hsz]
  generalize hW1 : w.alloc (.cells (qcells t b r k) 91) = W1 at *
  have hZ := hY W1
  have hX2 := hX.alloc (.cells dzero 261)
  have hB2 := hB.alloc hB.size (.cells dzero 261)
  have hle : w.heap.size ≤ W1.heap.size := hB.size
  generalize hW2 : W1.alloc _ = W2 at *
  generalize W1.heap.size = g1 at *
  generalize hg0 : w.heap.size = g0 at *
  clear hW1 hW2 hY hX hB hsz W1
  have HB0 := Lib.hid (below_drew hB2)
  have HX0 := Lib.hid (hX2.below (below_drew (Below.refl _ _)))
  have HZ0 := Lib.hid (hZ.below (below_drew (Below.refl _ _)))
  clear hB2 hX2 hZ
  refine wp_region_held_drew (S := (fun w' : World => w'.cell? ⟨g0, 0, none⟩ = some (.int .i64 t) ∧ w'.cell? ⟨g0, 1, none⟩ = some (.int .i64 b) ∧ w'.cell? ⟨g0, 2, none⟩ = some (.int .i64 r) ∧ w'.cell? ⟨g0, 3, none⟩ = some (.int .i64 k))) (by kernel_rfl) ⟨HX0.out.at_ 0, HX0.out.at_ 1, HX0.out.at_ 2, HX0.out.at_ 3⟩ (fun _ => ?_)
  change wpAnyH _ _ _ _ _ 4 #[false, false, false, false] _ (World.drew _)
  refine wpAnyH_take (i := 1) (v := qv t b r k) rfl (by kernel_rfl) (by kernel_rfl) (by kernel_rfl) (fun _ _ _ h => h) (Or.inl ⟨by rfl, fun u hu => by (obtain ⟨u0, u1, u2, u3⟩ := hu; go_simp)⟩) ⟨HX0.out.at_ 0, HX0.out.at_ 1, HX0.out.at_ 2, HX0.out.at_ 3⟩ ?_
  simp only [List.getElem_toArray, List.getElem_cons_succ, List.getElem_cons_zero, Act.put, List.setIfInBounds_toArray, List.set_cons_zero, List.set_cons_succ]
  refine wpAnyH_ready (rs := [0]) (by kernel_rfl) (by simp) ?_
  refine AllReadyH.cons rfl (fun K hK => ?_) AllReadyH.nil
  go_simp
  go_at_call 108
  refine (lbegin_any _).mono ?_
  rintro e w3 ⟨rfl, hb3⟩
  have Q3 := Lib.hid (HX0.out.below hb3)
  have Z3 := Lib.hid (HZ0.out.below hb3)
  have B3 := Lib.hid (HB0.out.trans (hb3.mono (hg0 ▸ HB0.out.size)))
  refine hK.out _ _ ⟨Q3.out.at_ 0, Q3.out.at_ 1, Q3.out.at_ 2, Q3.out.at_ 3⟩ (fun _ => ?_)
  clear hK K
  simp only [List.setIfInBounds_toArray, List.set_cons_zero, List.set_cons_succ]
  refine wpAnyH_take (i := 2) (v := .agg (ocells (fra1 0 t b r k 0) 0 0).toArray) rfl (by kernel_rfl) (by kernel_rfl) (by kernel_rfl) (fun _ _ _ h => h) (Or.inl ⟨by rfl, fun u hu => by (go_simp)⟩) ⟨Q3.out.at_ 0, Q3.out.at_ 1, Q3.out.at_ 2, Q3.out.at_ 3⟩ ?_
  simp only [List.getElem_toArray, List.getElem_cons_succ, List.getElem_cons_zero, Act.put, List.setIfInBounds_toArray, List.set_cons_zero, List.set_cons_succ]
  refine wpAnyH_ready (rs := [3]) (by kernel_rfl) (by simp) ?_
  refine AllReadyH.cons rfl (fun K hK => ?_) AllReadyH.nil
  rw [if_pos (show Region.wanted _ _ = true by rfl)]
  refine wp_store_row 261 (.tmp 2) (.tmp 5) rfl g1 (ocells (fra1 0 t b r k 0) 0 0).toArray rfl rfl 261 dzero Z3.out (by kernel_rfl) rfl (by kernel_rfl) ?_
  have hfr := fr_rowP w3 g1 (ocells (fra1 0 t b r k 0) 0 0).toArray
  have hne : g0 ≠ g1 := Q3.out.apart Z3.out (by decide)
  have Q4 := Lib.hid (Q3.out.of_same (hfr.block g0 Q3.out.lt (by simpa using hne)))
  have Z4 := Lib.hid (show Blk (w3.setRow g1 (ocells (fra1 0 t b r k 0) 0 0).toArray) g1 261 (ocells (fra1 0 t b r k 0) 0 0).toArray from setRow_heap _ _ _ _ _ _ Z3.out)
  have B4 := Lib.hid (below_of_fr (hg0.symm ▸ B3.out) hfr (fun y hy => by simp at hy; omega))
  refine hK.out _ _ ⟨Q4.out.at_ 0, Q4.out.at_ 1, Q4.out.at_ 2, Q4.out.at_ 3⟩ (fun _ => ?_)
  clear hK K
  simp only [List.setIfInBounds_toArray, List.set_cons_zero, List.set_cons_succ]
  refine wpAnyH_done (by kernel_rfl) ?_ _
  generalize w3.setRow g1 (ocells (fra1 0 t b r k 0) 0 0).toArray = W4 at *
  go_wp2
  refine bodyPost_ret (results_cell_row (P := Tryz.prog) Tryz.results162 _ _ g1 261 _ (0, 0) _ rfl Z4.out Tryz.underlying261 rfl (by kernel_rfl)) rfl ?_
  exact ⟨rfl, B4.out⟩

/-- What Push gives: a machine at its first line. -/
def Pushed (t b r k v : Int) (w : World) (e : Ending) (w' : World) : Prop :=
  ∃ q : Nat, e = .returned (.iface 259 (.pointer (some ⟨q, 0, none⟩))) ∧ OB w' q 264 [.int .i64 v] (fra1 0 t b r k v) 0 0 ∧ w.heap.size ≤ q ∧ Below w.heap.size w w'
set_option maxHeartbeats 2000000 in
theorem oPush_any (t b r k : Int) (v : Int) (w : World) : Calls Tryz.prog 115 #[qv t b r k, .int .i64 v] w (Pushed t b r k v w) := by
  have HQ := Lib.hid (below_one w (.cells (qcells t b r k) 91))
  go_enter Tryz.func115, Tryz.ntmps115
  go_wp2_with fail
  (with_reducible refine (on_any t b r k _).mono ?_)
  rintro e w1 ⟨rfl, hb⟩
  have HB := Lib.hid (HQ.out.trans (hb.mono HQ.out.size))
  clear hb
  go_wp2
  go_ret
  have hs := HB.out.size
  refine ⟨w1.heap.size, rfl, ⟨Blk.made w1 _ _, by decide, by decide, by decide, by decide⟩, hs, HB.out.trans ((below_one w1 _).mono hs)⟩

/-- Its methods. -/
theorem meth_step_pusher (q : Nat) (w : World) : (method 428 259 (.pointer (some ⟨q, 0, none⟩)) "Step").run Tryz.prog w = .ok (250, .pointer (some ⟨q, 0, none⟩)) w := by kernel_rfl
theorem ahead_step_pusher (q : Nat) (w : World) : (nilAhead 428 259 (.pointer (some ⟨q, 0, none⟩)) "Step").run Tryz.prog w = .ok (some false) w := by kernel_rfl
theorem meth_result_pusher (q : Nat) (w : World) : (method 428 259 (.pointer (some ⟨q, 0, none⟩)) "Result").run Tryz.prog w = .ok (224, .pointer (some ⟨q, 0, none⟩)) w := by kernel_rfl
theorem ahead_result_pusher (q : Nat) (w : World) : (nilAhead 428 259 (.pointer (some ⟨q, 0, none⟩)) "Result").run Tryz.prog w = .ok (some false) w := by kernel_rfl

/-- What Pop gives: a machine at its first line. -/
def Poped (t b r k : Int) (w : World) (e : Ending) (w' : World) : Prop :=
  ∃ q : Nat, e = .returned (.iface 265 (.pointer (some ⟨q, 0, none⟩))) ∧ OB w' q 267 [] (fra1 1 t b r k 0) 0 0 ∧ w.heap.size ≤ q ∧ Below w.heap.size w w'
set_option maxHeartbeats 2000000 in
theorem oPop_any (t b r k : Int) (w : World) : Calls Tryz.prog 116 #[qv t b r k] w (Poped t b r k w) := by
  have HQ := Lib.hid (below_one w (.cells (qcells t b r k) 91))
  go_enter Tryz.func116, Tryz.ntmps116
  go_wp2_with fail
  (with_reducible refine (on_any t b r k _).mono ?_)
  rintro e w1 ⟨rfl, hb⟩
  have HB := Lib.hid (HQ.out.trans (hb.mono HQ.out.size))
  clear hb
  go_wp2
  go_ret
  have hs := HB.out.size
  refine ⟨w1.heap.size, rfl, ⟨Blk.made w1 _ _, by decide, by decide, by decide, by decide⟩, hs, HB.out.trans ((below_one w1 _).mono hs)⟩

/-- Its methods. -/
theorem meth_step_popper (q : Nat) (w : World) : (method 428 265 (.pointer (some ⟨q, 0, none⟩)) "Step").run Tryz.prog w = .ok (256, .pointer (some ⟨q, 0, none⟩)) w := by kernel_rfl
theorem ahead_step_popper (q : Nat) (w : World) : (nilAhead 428 265 (.pointer (some ⟨q, 0, none⟩)) "Step").run Tryz.prog w = .ok (some false) w := by kernel_rfl
theorem meth_result_popper (q : Nat) (w : World) : (method 428 265 (.pointer (some ⟨q, 0, none⟩)) "Result").run Tryz.prog w = .ok (224, .pointer (some ⟨q, 0, none⟩)) w := by kernel_rfl
theorem ahead_result_popper (q : Nat) (w : World) : (nilAhead 428 265 (.pointer (some ⟨q, 0, none⟩)) "Result").run Tryz.prog w = .ok (some false) w := by kernel_rfl

end Go.Proofs.YtjehiekmlbeaeaaGreat

namespace Go.Proofs.YtjehiekmlbeaeaaGreat
open Go Go.RowKit Go.Shelf
set_option linter.unusedSimpArgs false

/-- What Steal gives: a machine at its first line. -/
def Stealed (t b r k : Int) (w : World) (e : Ending) (w' : World) : Prop :=
  ∃ q : Nat, e = .returned (.iface 268 (.pointer (some ⟨q, 0, none⟩))) ∧ OB w' q 270 [.int .u64 0] (fra1 2 t b r k 0) 0 0 ∧ w.heap.size ≤ q ∧ Below w.heap.size w w'
set_option maxHeartbeats 2000000 in
theorem oSteal_any (t b r k : Int) (w : World) : Calls Tryz.prog 117 #[qv t b r k] w (Stealed t b r k w) := by
  have HQ := Lib.hid (below_one w (.cells (qcells t b r k) 91))
  go_enter Tryz.func117, Tryz.ntmps117
  go_wp2_with fail
  (with_reducible refine (on_any t b r k _).mono ?_)
  rintro e w1 ⟨rfl, hb⟩
  have HB := Lib.hid (HQ.out.trans (hb.mono HQ.out.size))
  clear hb
  go_wp2
  go_ret
  have hs := HB.out.size
  refine ⟨w1.heap.size, rfl, ⟨Blk.made w1 _ _, by decide, by decide, by decide, by decide⟩, hs, HB.out.trans ((below_one w1 _).mono hs)⟩

/-- Its methods. -/
theorem meth_step_stealer (q : Nat) (w : World) : (method 428 268 (.pointer (some ⟨q, 0, none⟩)) "Step").run Tryz.prog w = .ok (261, .pointer (some ⟨q, 0, none⟩)) w := by kernel_rfl
theorem ahead_step_stealer (q : Nat) (w : World) : (nilAhead 428 268 (.pointer (some ⟨q, 0, none⟩)) "Step").run Tryz.prog w = .ok (some false) w := by kernel_rfl
theorem meth_result_stealer (q : Nat) (w : World) : (method 428 268 (.pointer (some ⟨q, 0, none⟩)) "Result").run Tryz.prog w = .ok (224, .pointer (some ⟨q, 0, none⟩)) w := by kernel_rfl
theorem ahead_result_stealer (q : Nat) (w : World) : (nilAhead 428 268 (.pointer (some ⟨q, 0, none⟩)) "Result").run Tryz.prog w = .ok (some false) w := by kernel_rfl

end Go.Proofs.YtjehiekmlbeaeaaGreat

namespace Go.Proofs.YtjehiekmlbeaeaaGreat
open Go Go.RowKit

theorem go_len (s : St) (k i : Int) (F : Int → Int) : (s.go k i F).X.length = s.X.length := by
  unfold St.go
  split
  · simp [St.acc]
  · rfl
theorem go_has (s : St) (k i j : Int) (F : Int → Int) : (s.go k i F).has j ↔ s.has j := by
  unfold St.has
  rw [go_len]
theorem go_old (s : St) (k i : Int) (F : Int → Int) (h : s.has i) : (s.go k i F).old i = F (s.old i) := by
  have h' := (go_has s k i i F).2 h
  unfold St.old
  rw [if_pos h', if_pos h]
  unfold St.go
  rw [if_pos h]
  have h2 : i.toNat < s.X.length := by have := h.1; have := h.2; omega
  simp [St.acc, List.getD_eq_getElem?_getD, h2]
theorem go_other (s : St) (k i j : Int) (F : Int → Int) (h : i ≠ j) : (s.go k i F).old j = s.old j := by
  unfold St.old
  by_cases hj : s.has j
  · rw [if_pos hj, if_pos ((go_has s k i j F).2 hj)]
    unfold St.go
    split
    · rename_i hi
      have : i.toNat ≠ j.toNat := by have := hi.1; have := hj.1; omega
      simp [St.acc, List.getD_eq_getElem?_getD, this]
    · rfl
  · rw [if_neg hj, if_neg (fun h => hj ((go_has s k i j F).1 h))]
end Go.Proofs.YtjehiekmlbeaeaaGreat

namespace Go.Proofs.YtjehiekmlbeaeaaGreat
open Go Go.RowKit
set_option linter.unusedSimpArgs false

/-- No word is negative. -/
def St.N (s : St) : Prop := ∀ i, 0 ≤ s.old i
theorem go_N {s : St} (h : s.N) (k i : Int) (F : Int → Int) (hF : ∀ x, 0 ≤ x → 0 ≤ F x) : (s.go k i F).N := by
  intro j
  by_cases hj : i = j
  · subst hj
    by_cases hi : s.has i
    · rw [go_old s k i F hi]
      exact hF _ (h i)
    · unfold St.go
      rw [if_neg hi]
      exact h i
  · rw [go_other s k i j F hj]
    exact h j
theorem old_len {s : St} (j : Nat) (hj : j < s.X.length) : s.old j = s.X.getD j 0 := by
  have h : s.has j := ⟨by omega, by omega⟩
  unfold St.old
  rw [if_pos h, Int.toNat_natCast]
theorem N_of {s : St} (h : ∀ j, j < s.X.length → 0 ≤ s.X.getD j 0) : s.N := by
  intro i
  unfold St.old
  split
  · rename_i hi
    have := hi.1
    have := hi.2
    exact h i.toNat (by omega)
  · omega
/-- An access counts as one at most. -/
theorem go_c {s : St} (k i : Int) (F : Int → Int) (h : 0 ≤ s.c ∧ s.c < 1000000) : s.c ≤ (s.go k i F).c ∧ (s.go k i F).c ≤ s.c + 1 := by
  unfold St.go
  split
  · simp only [St.acc]
    unfold wrap64
    omega
  · omega

/-- What keeps the owner's push going. -/
def PushOk (f : Fra) : Prop := (f.ln = 1 ∨ f.ln = 2 ∨ f.ln = 3 ∨ f.ln = 4) ∧ 0 ≤ f.fu ∧ 0 ≤ f.fv ∧ f.qc ≤ 9223372036854775807
def PopOk (f : Fra) : Prop := (f.ln = 1 ∨ f.ln = 2 ∨ f.ln = 3 ∨ f.ln = 4 ∨ f.ln = 5 ∨ f.ln = 6 ∨ f.ln = 7 ∨ f.ln = 8 ∨ f.ln = 9) ∧ 0 ≤ f.fu ∧ 0 ≤ f.fv ∧ f.qc ≤ 9223372036854775807
def StealOk (f : Fra) : Prop := (f.ln = 1 ∨ f.ln = 2 ∨ f.ln = 3 ∨ f.ln = 4) ∧ 0 ≤ f.fu ∧ 0 ≤ f.fv ∧ f.qc ≤ 9223372036854775807

/-- What a step keeps: the words, the count, what the line says; the result is 0 and 0 as long as it isn't done. -/
structure Keeps (stp : St → Fra → St × Fra × Res) (ok : Fra → Prop) : Prop where
  n : ∀ (s : St) (f : Fra), s.N → ok f → (stp s f).1.N
  o : ∀ (s : St) (f : Fra), s.N → ok f → (stp s f).2.2.dn = false → ok (stp s f).2.1
  uv : ∀ (s : St) (f : Fra), s.N → ok f → 0 ≤ (stp s f).2.1.fu ∧ 0 ≤ (stp s f).2.1.fv
  c : ∀ (s : St) (f : Fra), 0 ≤ s.c ∧ s.c < 1000000 → s.c ≤ (stp s f).1.c ∧ (stp s f).1.c ≤ s.c + 1
  z : ∀ (s : St) (f : Fra), (stp s f).2.2.dn = false → (stp s f).2.2.cd = 0 ∧ (stp s f).2.2.vl = 0
  q : ∀ (s : St) (f : Fra), (stp s f).2.1.fa = f.fa ∧ (stp s f).2.1.qc = f.qc ∧ (stp s f).2.1.kd = f.kd
  l : ∀ (s : St) (f : Fra), (stp s f).1.X.length = s.X.length

theorem push_keeps : Keeps pushS PushOk := by
  refine ⟨fun s f hs h => ?_, fun s f hs h hd => ?_, fun s f hs h => ?_, fun s f h => ?_, fun s f hd => ?_, fun s f => ?_, fun s f => ?_⟩
  · unfold pushS
    split
    · exact go_N hs _ _ _ (fun x hx => hx)
    split
    · split <;> exact go_N hs _ _ _ (fun x hx => hx)
    split
    · exact go_N hs _ _ _ (fun x hx => u64_nn _)
    · exact go_N hs _ _ _ (fun x hx => u64_nn _)
  · obtain ⟨hl, hu, hv, hq⟩ := h
    revert hd
    unfold pushS
    split
    · intro _
      exact ⟨.inr (.inl rfl), hs _, hv, hq⟩
    split
    · split
      · intro hd
        exact absurd hd (by simp)
      · intro _
        exact ⟨.inr (.inr (.inl rfl)), hu, hs _, hq⟩
    split
    · intro _
      exact ⟨.inr (.inr (.inr rfl)), hu, hv, hq⟩
    · intro hd
      exact absurd hd (by simp)
  · obtain ⟨hl, hu, hv, hq⟩ := h
    unfold pushS
    split
    · exact ⟨hs _, hv⟩
    split
    · split <;> exact ⟨hu, hs _⟩
    split <;> exact ⟨hu, hv⟩
  · unfold pushS
    split
    · exact go_c _ _ _ h
    split
    · split <;> exact go_c _ _ _ h
    split <;> exact go_c _ _ _ h
  · revert hd
    unfold pushS
    split
    · intro _; exact ⟨rfl, rfl⟩
    split
    · split
      · intro hd; exact absurd hd (by simp)
      · intro _; exact ⟨rfl, rfl⟩
    split
    · intro _; exact ⟨rfl, rfl⟩
    · intro hd; exact absurd hd (by simp)
  · unfold pushS
    split
    · exact ⟨rfl, rfl, rfl⟩
    split
    · split <;> exact ⟨rfl, rfl, rfl⟩
    split <;> exact ⟨rfl, rfl, rfl⟩
  · unfold pushS
    split
    · exact go_len _ _ _ _
    split
    · split <;> exact go_len _ _ _ _
    split <;> exact go_len _ _ _ _

theorem pop4_in (z : Int) : pop4 z = 5 ∨ pop4 z = 6 ∨ pop4 z = 9 := by
  unfold pop4
  split
  · exact .inr (.inl rfl)
  split
  · exact .inr (.inr rfl)
  · exact .inl rfl
theorem pop_keeps : Keeps popS PopOk := by
  refine ⟨fun s f hs h => ?_, fun s f hs h hd => ?_, fun s f hs h => ?_, fun s f h => ?_, fun s f hd => ?_, fun s f => ?_, fun s f => ?_⟩
  · obtain ⟨hl, hu, hv, hq⟩ := h
    unfold popS
    split
    · exact go_N hs _ _ _ (fun x hx => hx)
    split
    · split <;> exact go_N hs _ _ _ (fun x hx => hx)
    split
    · exact go_N hs _ _ _ (fun x hx => u64_nn _)
    split
    · exact go_N hs _ _ _ (fun x hx => hx)
    split
    · exact go_N hs _ _ _ (fun x hx => hx)
    split
    · show (s.go 3 f.qt (fun x => if x = f.fv then add1 f.fv else x)).N
      apply go_N hs
      intro x hx
      show 0 ≤ if x = f.fv then add1 f.fv else x
      split
      · exact u64_nn _
      · exact hx
    split
    · exact go_N hs _ _ _ (fun x hx => hu)
    · exact go_N hs _ _ _ (fun x hx => hu)
  · obtain ⟨hl, hu, hv, hq⟩ := h
    revert hd
    unfold popS
    split
    · intro _
      exact ⟨.inr (.inl rfl), hs _, hv, hq⟩
    split
    · split
      · intro hd
        exact absurd hd (by simp)
      · intro _
        exact ⟨.inr (.inr (.inl rfl)), hu, hs _, hq⟩
    split
    · intro _
      exact ⟨.inr (.inr (.inr (.inl rfl))), hu, hv, hq⟩
    split
    · intro _
      refine ⟨?_, hu, hs _, hq⟩
      show pop4 _ = 1 ∨ pop4 _ = 2 ∨ pop4 _ = 3 ∨ pop4 _ = 4 ∨ pop4 _ = 5 ∨ pop4 _ = 6 ∨ pop4 _ = 7 ∨ pop4 _ = 8 ∨ pop4 _ = 9
      have := pop4_in (sizeI (sub1 f.fu) (s.old f.qt))
      omega
    split
    · intro hd
      exact absurd hd (by simp)
    split
    · intro _
      refine ⟨?_, hu, hv, hq⟩
      show (if s.hit f.qt f.fv = true then (7 : Int) else 9) = 1 ∨ (if s.hit f.qt f.fv = true then (7 : Int) else 9) = 2 ∨ (if s.hit f.qt f.fv = true then (7 : Int) else 9) = 3 ∨ (if s.hit f.qt f.fv = true then (7 : Int) else 9) = 4 ∨ (if s.hit f.qt f.fv = true then (7 : Int) else 9) = 5 ∨ (if s.hit f.qt f.fv = true then (7 : Int) else 9) = 6 ∨ (if s.hit f.qt f.fv = true then (7 : Int) else 9) = 7 ∨ (if s.hit f.qt f.fv = true then (7 : Int) else 9) = 8 ∨ (if s.hit f.qt f.fv = true then (7 : Int) else 9) = 9
      split <;> omega
    split
    · intro _
      exact ⟨.inr (.inr (.inr (.inr (.inr (.inr (.inr (.inl rfl))))))), hu, hv, hq⟩
    · intro hd
      exact absurd hd (by simp)
  · obtain ⟨hl, hu, hv, hq⟩ := h
    unfold popS
    split
    · exact ⟨hs _, hv⟩
    split
    · split <;> exact ⟨hu, hs _⟩
    split
    · exact ⟨hu, hv⟩
    split
    · exact ⟨hu, hs _⟩
    split
    · exact ⟨hu, hv⟩
    split
    · exact ⟨hu, hv⟩
    split <;> exact ⟨hu, hv⟩
  · unfold popS
    split
    · exact go_c _ _ _ h
    split
    · split <;> exact go_c _ _ _ h
    split
    · exact go_c _ _ _ h
    split
    · exact go_c _ _ _ h
    split
    · exact go_c _ _ _ h
    split
    · exact go_c _ _ _ h
    split <;> exact go_c _ _ _ h
  · revert hd
    unfold popS
    split
    · intro _; exact ⟨rfl, rfl⟩
    split
    · split
      · intro hd; exact absurd hd (by simp)
      · intro _; exact ⟨rfl, rfl⟩
    split
    · intro _; exact ⟨rfl, rfl⟩
    split
    · intro _; exact ⟨rfl, rfl⟩
    split
    · intro hd; exact absurd hd (by simp)
    split
    · intro _; exact ⟨rfl, rfl⟩
    split
    · intro _; exact ⟨rfl, rfl⟩
    · intro hd; exact absurd hd (by simp)
  · unfold popS
    split
    · exact ⟨rfl, rfl, rfl⟩
    split
    · split <;> exact ⟨rfl, rfl, rfl⟩
    split
    · exact ⟨rfl, rfl, rfl⟩
    split
    · exact ⟨rfl, rfl, rfl⟩
    split
    · exact ⟨rfl, rfl, rfl⟩
    split
    · exact ⟨rfl, rfl, rfl⟩
    split <;> exact ⟨rfl, rfl, rfl⟩
  · unfold popS
    split
    · exact go_len _ _ _ _
    split
    · split <;> exact go_len _ _ _ _
    split
    · exact go_len _ _ _ _
    split
    · exact go_len _ _ _ _
    split
    · exact go_len _ _ _ _
    split
    · exact go_len _ _ _ _
    split <;> exact go_len _ _ _ _
end Go.Proofs.YtjehiekmlbeaeaaGreat

namespace Go.Proofs.YtjehiekmlbeaeaaGreat
open Go Go.RowKit
set_option linter.unusedSimpArgs false

/-- A machine's steps until it is done: the state, the result, how many there are. -/
def runS (stp : St → Fra → St × Fra × Res) : Nat → St → Fra → Option (St × Res × Nat)
  | 0, _, _ => none
  | n + 1, s, f => if (stp s f).2.2.dn = true then some ((stp s f).1, (stp s f).2.2, 1) else (runS stp n (stp s f).1 (stp s f).2.1).map fun x => (x.1, x.2.1, x.2.2 + 1)
theorem runS_end {stp : St → Fra → St × Fra × Res} {n N : Nat} {s s' : St} {f : Fra} {r : Res} (h : runS stp (n + 1) s f = some (s', r, N)) (hd : (stp s f).2.2.dn = true) : (stp s f).1 = s' ∧ (stp s f).2.2 = r ∧ N = 1 := by
  unfold runS at h
  rw [if_pos hd] at h
  simp only [Option.some.injEq, Prod.mk.injEq] at h
  exact ⟨h.1, h.2.1, h.2.2.symm⟩
theorem runS_on {stp : St → Fra → St × Fra × Res} {n N : Nat} {s s' : St} {f : Fra} {r : Res} (h : runS stp (n + 1) s f = some (s', r, N)) (hd : (stp s f).2.2.dn = false) : ∃ M, runS stp n (stp s f).1 (stp s f).2.1 = some (s', r, M) ∧ N = M + 1 := by
  unfold runS at h
  rw [if_neg (by rw [hd]; decide)] at h
  cases h2 : runS stp n (stp s f).1 (stp s f).2.1 with
  | none => rw [h2] at h; simp at h
  | some x =>
    rw [h2] at h
    obtain ⟨a, b, c⟩ := x
    simp only [Option.map_some, Option.some.injEq, Prod.mk.injEq] at h
    obtain ⟨rfl, rfl, rfl⟩ := h
    exact ⟨c, rfl, rfl⟩
end Go.Proofs.YtjehiekmlbeaeaaGreat

namespace Go.Proofs.YtjehiekmlbeaeaaGreat
open Go Go.RowKit
set_option linter.unusedSimpArgs false

/-- The cell of an index, in a deque from cell 2 on. -/
theorem ring2 (n : Nat) (hn : 1 ≤ n ∧ n ≤ 100) (i : Int) : ∃ r : Nat, r < n ∧ (r : Int) = i % n ∧ ringI 2 n i = ((2 + r : Nat) : Int) := by
  have h1 := Int.emod_nonneg i (show (n : Int) ≠ 0 by omega)
  have h2 := Int.emod_lt_of_pos i (show (0 : Int) < n by omega)
  refine ⟨(i % n).toNat, by omega, by omega, ?_⟩
  unfold ringI
  rw [if_neg (by omega)]
  unfold wrap64
  omega
/-- The words X are those of a deque whose indices begin with t, and which has the words l as entries. -/
structure DqX (X : List Int) (n t : Nat) (l : List Int) : Prop where
  top : X.getD 0 0 = t
  ent : ∀ i, i < l.length → X.getD (2 + (t + i) % n) 0 = l.getD i 0
theorem mod_ne {n a b : Nat} (h : a < b) (h' : b < a + n) : a % n ≠ b % n := by
  intro e
  have h1 := Nat.div_add_mod a n
  have h2 := Nat.div_add_mod b n
  have h3 : n * (b / n) = n * (a / n) + (b - a) := by omega
  have h4 : a / n < b / n := by
    rcases Nat.lt_or_ge (a / n) (b / n) with h | h
    · exact h
    · have := Nat.mul_le_mul_left n h
      omega
  have h5 : n * (a / n + 1) ≤ n * (b / n) := Nat.mul_le_mul_left n h4
  rw [Nat.mul_add] at h5
  omega
theorem DqX.put {X : List Int} {n t : Nat} {l : List Int} (h : DqX X n t l) (hX : X.length = n + 3) (hn : 1 ≤ n) (hl : l.length < n) (v : Int) : DqX (X.set (2 + (t + l.length) % n) v) n t (l ++ [v]) := by
  have hm := Nat.mod_lt (t + l.length) (show n > 0 by omega)
  refine ⟨?_, fun i hi => ?_⟩
  · rw [List.getD_eq_getElem?_getD, List.getElem?_set_ne (by omega), ← List.getD_eq_getElem?_getD]
    exact h.top
  · rw [List.length_append] at hi
    simp only [List.length_cons, List.length_nil, Nat.zero_add] at hi
    by_cases hil : i < l.length
    · have hne := mod_ne (n := n) (a := t + i) (b := t + l.length) (by omega) (by omega)
      rw [List.getD_eq_getElem?_getD, List.getElem?_set_ne (by omega), ← List.getD_eq_getElem?_getD, h.ent i hil, List.getD_eq_getElem?_getD, List.getD_eq_getElem?_getD, List.getElem?_append_left hil]
    · obtain rfl : i = l.length := by omega
      rw [List.getD_eq_getElem?_getD, List.getElem?_set_self (by omega), List.getD_eq_getElem?_getD, List.getElem?_append_right (Nat.le_refl _), Nat.sub_self]
      rfl

end Go.Proofs.YtjehiekmlbeaeaaGreat
