/-
  Contracts of the laws' act: one call, at the memory and at the reference.
-/
import Derived.Test.YtbnaiogabcaboaaMemCallsD
import Derived.BigQuiet
import Derived.Deep.QuietTactic
namespace Go.Proofs.Ytbnaiogabcaboaa
open Go Go.RowKit Go.Shelf

theorem St.go_len (s : St) (k i : Int) (F : Int → Int) : (s.go k i F).X.length = s.X.length := by
  unfold St.go
  split
  · simp [St.acc]
  · rfl

/-- What act leaves: both have made the same step. -/
def Acted (w : World) (p g cap q r cap' n : Nat) (e : Ending) (w' : World) : Prop :=
  e = .returned (.bool true) ∧ ∃ s : St, s.X.length = n ∧ Mem w' p g cap s ∧ Ref w' q r cap' s ∧ Fr [p, g, q, r] w w'

/-- The two memories have no block in common. -/
def Apart (p g q r : Nat) : Prop := p ∉ [q, r] ∧ g ∉ [q, r] ∧ q ∉ [p, g] ∧ r ∉ [p, g]
theorem apart_all {w : World} {p g cap q r cap' : Nat} {s t : St} (hm : Mem w p g cap s) (hr : Ref w q r cap' t) (hgr : g ≠ r) : Apart p g q r := by
  obtain ⟨c1, b1, _⟩ := hm.row.blk
  obtain ⟨c2, b2, _⟩ := hr.row.blk
  have a1 := hm.blk.apart hr.blk (by decide)
  have a2 := hm.blk.apart b2 (by decide)
  have a3 := b1.apart hr.blk (by decide)
  unfold Apart
  simp only [List.mem_cons, List.not_mem_nil, or_false, not_or]
  exact ⟨⟨a1, a2⟩, ⟨a3, hgr⟩, ⟨a1.symm, a3.symm⟩, ⟨a2.symm, hgr.symm⟩⟩

theorem acted_of {w w2 w3 : World} {o : Obj} {p g cap q r cap' n : Nat} {s : St} (hx : Apart p g q r) (hn : s.X.length = n) (hm : Mem w3 p g cap s) (hr : Ref w2 q r cap' s) (f2 : Fr [q, r] (w.alloc o) w2) (f3 : Fr [p, g] w2 w3) :
    Acted w p g cap q r cap' n (.returned (.bool true)) w3 :=
  ⟨rfl, s, hn, hm, hr.fr f3 hx.2.2.1 hx.2.2.2, (((Fr.refl _ _).alloc o).trans (f2.mono (by simp +contextual))).trans (f3.mono (by simp +contextual))⟩

theorem size_fresh {w : World} {p g cap : Nat} {s : St} (h : Ref w p g cap s) : w.heap.size ∉ [p, g] := by
  have a := h.blk.lt
  have b := h.row.lt
  simp only [List.mem_cons, List.not_mem_nil, or_false, not_or]
  exact ⟨by omega, by omega⟩

set_option maxHeartbeats 1000000 in
theorem act_load {w : World} {p g cap q r cap' : Nat} {s : St} (hm : Mem w p g cap s) (hr : Ref w q r cap' s) (hgr : g ≠ r) (k c v u : Int) (hk : (wrap64 (k.tmod 8 + 8)).tmod 8 = 0) :
    Calls Try.prog 13 #[.pointer (some ⟨p, 0, none⟩), .pointer (some ⟨q, 0, none⟩), .agg #[.int .i64 k, .int .i64 c, .int .u64 v, .int .u64 u]] w (Acted w p g cap q r cap' s.X.length) := by
  have hx := apart_all hm hr hgr
  have hB := Blk.made w 34 #[.int .i64 k, .int .i64 c, .int .u64 v, .int .u64 u]
  have hm1 := hm.alloc (.cells #[.int .i64 k, .int .i64 c, .int .u64 v, .int .u64 u] 34)
  have hr1 := hr.alloc (.cells #[.int .i64 k, .int .i64 c, .int .u64 v, .int .u64 u] 34)
  have hz := size_fresh hr
  have hN := Lib.hid (s.go_len)
  have HX := Lib.hid hx
  have HZ := Lib.hid hz
  clear hm hr hgr hx hz
  go_enter Try.func13, Try.ntmps13
  go_wp2_with fail
  refine (rload_any hr1 c 0 0).mono ?_
  rintro e w2 ⟨rfl, hr2, hf2⟩
  have hB2 := hB.of_same (hf2.block w.heap.size (by simp) HZ.out)
  have b1 := hB2.at_ 1
  have b2 := hB2.at_ 2
  have b3 := hB2.at_ 3
  have hm2 := hm1.fr hf2 HX.out.1 HX.out.2.1
  clear hB hB2 hm1 hr1
  go_wp2_with fail
  refine (load_any hm2 c).mono ?_
  rintro e w3 ⟨rfl, hm3, hf3⟩
  have hE := Lib.hid (acted_of HX.out (hN.out _ _ _) hm3 hr2 hf2 hf3)
  clear hm2 hm3 hr2 hf2 hf3 b1 b2 b3
  go_wp2
  go_ret
  exact hE.out

set_option maxHeartbeats 1000000 in
theorem act_cas {w : World} {p g cap q r cap' : Nat} {s : St} (hm : Mem w p g cap s) (hr : Ref w q r cap' s) (hgr : g ≠ r) (k c v u : Int) (hk : (wrap64 (k.tmod 8 + 8)).tmod 8 = 2) :
    Calls Try.prog 13 #[.pointer (some ⟨p, 0, none⟩), .pointer (some ⟨q, 0, none⟩), .agg #[.int .i64 k, .int .i64 c, .int .u64 v, .int .u64 u]] w (Acted w p g cap q r cap' s.X.length) := by
  have hx := apart_all hm hr hgr
  have hB := Blk.made w 34 #[.int .i64 k, .int .i64 c, .int .u64 v, .int .u64 u]
  have hm1 := hm.alloc (.cells #[.int .i64 k, .int .i64 c, .int .u64 v, .int .u64 u] 34)
  have hr1 := hr.alloc (.cells #[.int .i64 k, .int .i64 c, .int .u64 v, .int .u64 u] 34)
  have hz := size_fresh hr
  have hN := Lib.hid (s.go_len)
  have HX := Lib.hid hx
  have HZ := Lib.hid hz
  clear hm hr hgr hx hz
  go_enter Try.func13, Try.ntmps13
  go_wp2_with fail
  refine (rcas_any hr1 c v u).mono ?_
  rintro e w2 ⟨rfl, hr2, hf2⟩
  have hB2 := hB.of_same (hf2.block w.heap.size (by simp) HZ.out)
  have b1 := hB2.at_ 1
  have b2 := hB2.at_ 2
  have b3 := hB2.at_ 3
  have hm2 := hm1.fr hf2 HX.out.1 HX.out.2.1
  clear hB hB2 hm1 hr1
  go_wp2_with fail
  refine (cas_any hm2 c v u).mono ?_
  rintro e w3 ⟨rfl, hm3, hf3⟩
  have hE := Lib.hid (acted_of HX.out (hN.out _ _ _) hm3 hr2 hf2 hf3)
  clear hm2 hm3 hr2 hf2 hf3 b1 b2 b3
  go_wp2
  go_ret
  exact hE.out

set_option maxHeartbeats 1000000 in
theorem act_or {w : World} {p g cap q r cap' : Nat} {s : St} (hm : Mem w p g cap s) (hr : Ref w q r cap' s) (hgr : g ≠ r) (k c v u : Int) (hk : (wrap64 (k.tmod 8 + 8)).tmod 8 = 3) :
    Calls Try.prog 13 #[.pointer (some ⟨p, 0, none⟩), .pointer (some ⟨q, 0, none⟩), .agg #[.int .i64 k, .int .i64 c, .int .u64 v, .int .u64 u]] w (Acted w p g cap q r cap' s.X.length) := by
  have hx := apart_all hm hr hgr
  have hB := Blk.made w 34 #[.int .i64 k, .int .i64 c, .int .u64 v, .int .u64 u]
  have hm1 := hm.alloc (.cells #[.int .i64 k, .int .i64 c, .int .u64 v, .int .u64 u] 34)
  have hr1 := hr.alloc (.cells #[.int .i64 k, .int .i64 c, .int .u64 v, .int .u64 u] 34)
  have hz := size_fresh hr
  have hN := Lib.hid (s.go_len)
  have HX := Lib.hid hx
  have HZ := Lib.hid hz
  clear hm hr hgr hx hz
  go_enter Try.func13, Try.ntmps13
  go_wp2_with fail
  refine (ror_any hr1 c v 0).mono ?_
  rintro e w2 ⟨rfl, hr2, hf2⟩
  have hB2 := hB.of_same (hf2.block w.heap.size (by simp) HZ.out)
  have b1 := hB2.at_ 1
  have b2 := hB2.at_ 2
  have b3 := hB2.at_ 3
  have hm2 := hm1.fr hf2 HX.out.1 HX.out.2.1
  clear hB hB2 hm1 hr1
  go_wp2_with fail
  refine (or_any hm2 c v).mono ?_
  rintro e w3 ⟨rfl, hm3, hf3⟩
  have hE := Lib.hid (acted_of HX.out (hN.out _ _ _) hm3 hr2 hf2 hf3)
  clear hm2 hm3 hr2 hf2 hf3 b1 b2 b3
  go_wp2
  go_ret
  exact hE.out

set_option maxHeartbeats 1000000 in
theorem act_and {w : World} {p g cap q r cap' : Nat} {s : St} (hm : Mem w p g cap s) (hr : Ref w q r cap' s) (hgr : g ≠ r) (k c v u : Int) (hk : (wrap64 (k.tmod 8 + 8)).tmod 8 = 4) :
    Calls Try.prog 13 #[.pointer (some ⟨p, 0, none⟩), .pointer (some ⟨q, 0, none⟩), .agg #[.int .i64 k, .int .i64 c, .int .u64 v, .int .u64 u]] w (Acted w p g cap q r cap' s.X.length) := by
  have hx := apart_all hm hr hgr
  have hB := Blk.made w 34 #[.int .i64 k, .int .i64 c, .int .u64 v, .int .u64 u]
  have hm1 := hm.alloc (.cells #[.int .i64 k, .int .i64 c, .int .u64 v, .int .u64 u] 34)
  have hr1 := hr.alloc (.cells #[.int .i64 k, .int .i64 c, .int .u64 v, .int .u64 u] 34)
  have hz := size_fresh hr
  have hN := Lib.hid (s.go_len)
  have HX := Lib.hid hx
  have HZ := Lib.hid hz
  clear hm hr hgr hx hz
  go_enter Try.func13, Try.ntmps13
  go_wp2_with fail
  refine (rand_any hr1 c v 0).mono ?_
  rintro e w2 ⟨rfl, hr2, hf2⟩
  have hB2 := hB.of_same (hf2.block w.heap.size (by simp) HZ.out)
  have b1 := hB2.at_ 1
  have b2 := hB2.at_ 2
  have b3 := hB2.at_ 3
  have hm2 := hm1.fr hf2 HX.out.1 HX.out.2.1
  clear hB hB2 hm1 hr1
  go_wp2_with fail
  refine (and_any hm2 c v).mono ?_
  rintro e w3 ⟨rfl, hm3, hf3⟩
  have hE := Lib.hid (acted_of HX.out (hN.out _ _ _) hm3 hr2 hf2 hf3)
  clear hm2 hm3 hr2 hf2 hf3 b1 b2 b3
  go_wp2
  go_ret
  exact hE.out

set_option maxHeartbeats 1000000 in
theorem act_add {w : World} {p g cap q r cap' : Nat} {s : St} (hm : Mem w p g cap s) (hr : Ref w q r cap' s) (hgr : g ≠ r) (k c v u : Int) (hk : (wrap64 (k.tmod 8 + 8)).tmod 8 = 5) :
    Calls Try.prog 13 #[.pointer (some ⟨p, 0, none⟩), .pointer (some ⟨q, 0, none⟩), .agg #[.int .i64 k, .int .i64 c, .int .u64 v, .int .u64 u]] w (Acted w p g cap q r cap' s.X.length) := by
  have hx := apart_all hm hr hgr
  have hB := Blk.made w 34 #[.int .i64 k, .int .i64 c, .int .u64 v, .int .u64 u]
  have hm1 := hm.alloc (.cells #[.int .i64 k, .int .i64 c, .int .u64 v, .int .u64 u] 34)
  have hr1 := hr.alloc (.cells #[.int .i64 k, .int .i64 c, .int .u64 v, .int .u64 u] 34)
  have hz := size_fresh hr
  have hN := Lib.hid (s.go_len)
  have HX := Lib.hid hx
  have HZ := Lib.hid hz
  clear hm hr hgr hx hz
  go_enter Try.func13, Try.ntmps13
  go_wp2_with fail
  refine (radd_any hr1 c v 0).mono ?_
  rintro e w2 ⟨rfl, hr2, hf2⟩
  have hB2 := hB.of_same (hf2.block w.heap.size (by simp) HZ.out)
  have b1 := hB2.at_ 1
  have b2 := hB2.at_ 2
  have b3 := hB2.at_ 3
  have hm2 := hm1.fr hf2 HX.out.1 HX.out.2.1
  clear hB hB2 hm1 hr1
  go_wp2_with fail
  refine (add_any hm2 c v).mono ?_
  rintro e w3 ⟨rfl, hm3, hf3⟩
  have hE := Lib.hid (acted_of HX.out (hN.out _ _ _) hm3 hr2 hf2 hf3)
  clear hm2 hm3 hr2 hf2 hf3 b1 b2 b3
  go_wp2
  go_ret
  exact hE.out

theorem quiet_here {P : Program} {f : FuncId} {args : Array Value} {w : World} {n : Nat} {v : Value} (h : Calls P f args (w.drewN n) fun e w' => e = .returned v ∧ w.drewN n = w') : Calls P f args (w.drewN n) fun e w' => e = .returned v ∧ ∃ m, w' = w.drewN m :=
  h.mono fun _ _ ⟨he, hw⟩ => ⟨he, n, hw.symm⟩

theorem acted_peek {w w3 : World} {o : Obj} {p g cap q r cap' n : Nat} {s : St} (hn : s.X.length = n) (hm : Mem w3 p g cap s) (hr : Ref w3 q r cap' s) (f : Fr [p, g, q, r] (w.alloc o) w3) (m : Nat) :
    Acted w p g cap q r cap' n (.returned (.bool true)) (w3.drewN m) :=
  ⟨rfl, s, hn, hm.drewN m, hr.drewN m, (((Fr.refl _ _).alloc o).trans f).drewN m⟩

set_option maxHeartbeats 1000000 in
theorem act_store {w : World} {p g cap q r cap' : Nat} {s : St} (hm : Mem w p g cap s) (hr : Ref w q r cap' s) (hgr : g ≠ r) (k c v u : Int) (hk : (wrap64 (k.tmod 8 + 8)).tmod 8 = 1) :
    Calls Try.prog 13 #[.pointer (some ⟨p, 0, none⟩), .pointer (some ⟨q, 0, none⟩), .agg #[.int .i64 k, .int .i64 c, .int .u64 v, .int .u64 u]] w (Acted w p g cap q r cap' s.X.length) := by
  have hx := apart_all hm hr hgr
  have hB := Blk.made w 34 #[.int .i64 k, .int .i64 c, .int .u64 v, .int .u64 u]
  have hm1 := hm.alloc (.cells #[.int .i64 k, .int .i64 c, .int .u64 v, .int .u64 u] 34)
  have hr1 := hr.alloc (.cells #[.int .i64 k, .int .i64 c, .int .u64 v, .int .u64 u] 34)
  have hz := size_fresh hr
  have hz' : w.heap.size ∉ [p, g] := by
    have a := hm.blk.lt
    have b := hm.row.lt
    simp only [List.mem_cons, List.not_mem_nil, or_false, not_or]
    exact ⟨by omega, by omega⟩
  have hN := Lib.hid (s.go_len)
  have HX := Lib.hid hx
  have HZ := Lib.hid hz
  have HZ' := Lib.hid hz'
  clear hm hr hgr hx hz hz'
  go_enter Try.func13, Try.ntmps13
  go_wp2_with fail
  refine (rstore_any hr1 c v 0).mono ?_
  rintro e w2 ⟨rfl, hr2, hf2⟩
  have hB2 := hB.of_same (hf2.block w.heap.size (by simp) HZ.out)
  have b1 := hB2.at_ 1
  have b2 := hB2.at_ 2
  have hm2 := hm1.fr hf2 HX.out.1 HX.out.2.1
  clear hB hm1 hr1
  go_wp2_with fail
  refine (store_any hm2 c v).mono ?_
  rintro e w3 ⟨rfl, hm3, hf3⟩
  have hr3 := hr2.fr hf3 HX.out.2.2.1 HX.out.2.2.2
  have hf : Fr [p, g, q, r] (w.alloc (.cells #[.int .i64 k, .int .i64 c, .int .u64 v, .int .u64 u] 34)) w3 := (hf2.mono (by simp +contextual)).trans (hf3.mono (by simp +contextual))
  have hB3 := hB2.of_same (hf3.block w.heap.size hB2.lt HZ'.out)
  have d1 := hB3.at_ 1
  have hE := fun m => Lib.hid (acted_peek (hN.out _ _ _) hm3 hr3 hf m)
  clear hm2 hr2 hf2 hf3 b1 b2 hf hB2 hB3
  go_wp2_with fail
  go_quiet ((first
    | (go_at_call 18; exact quiet_here (peek_any (hm3.drewN _) c))
    | (go_at_call 28; exact quiet_here (rpeek_any (hr3.drewN _) c))))
  go_wp2
  go_ret
  exact (hE _).out

set_option maxHeartbeats 1000000 in
theorem act_six {w : World} {p g cap q r cap' : Nat} {s : St} (hm : Mem w p g cap s) (hr : Ref w q r cap' s) (hgr : g ≠ r) (k c v u : Int) (hk : (wrap64 (k.tmod 8 + 8)).tmod 8 = 6) :
    Calls Try.prog 13 #[.pointer (some ⟨p, 0, none⟩), .pointer (some ⟨q, 0, none⟩), .agg #[.int .i64 k, .int .i64 c, .int .u64 v, .int .u64 u]] w (Acted w p g cap q r cap' s.X.length) := by
  have hx := apart_all hm hr hgr
  have hB := Blk.made w 34 #[.int .i64 k, .int .i64 c, .int .u64 v, .int .u64 u]
  have hm1 := hm.alloc (.cells #[.int .i64 k, .int .i64 c, .int .u64 v, .int .u64 u] 34)
  have hr1 := hr.alloc (.cells #[.int .i64 k, .int .i64 c, .int .u64 v, .int .u64 u] 34)
  have hz := size_fresh hr
  have hz' : w.heap.size ∉ [p, g] := by
    have a := hm.blk.lt
    have b := hm.row.lt
    simp only [List.mem_cons, List.not_mem_nil, or_false, not_or]
    exact ⟨by omega, by omega⟩
  have hN := Lib.hid (s.go_len)
  have HX := Lib.hid hx
  have HZ := Lib.hid hz
  have HZ' := Lib.hid hz'
  clear hm hr hgr hx hz hz'
  have hB2 := hB
  have b1 := hB2.at_ 1
  have hm3 := hm1
  have hr3 := hr1
  have hE := fun m => Lib.hid (acted_peek (o := (.cells #[.int .i64 k, .int .i64 c, .int .u64 v, .int .u64 u] 34)) rfl hm3 hr3 (Fr.refl _ _) m)
  clear hB hB2 hm1 hr1
  go_enter Try.func13, Try.ntmps13
  go_wp2_with fail
  go_quiet ((first
    | (go_at_call 18; exact quiet_here (peek_any (hm3.drewN _) c))
    | (go_at_call 28; exact quiet_here (rpeek_any (hr3.drewN _) c))))
  go_wp2
  go_ret
  exact (hE _).out

set_option maxHeartbeats 1000000 in
theorem act_seven {w : World} {p g cap q r cap' : Nat} {s : St} (hm : Mem w p g cap s) (hr : Ref w q r cap' s) (hgr : g ≠ r) (k c v u : Int) (hk : (wrap64 (k.tmod 8 + 8)).tmod 8 = 7) :
    Calls Try.prog 13 #[.pointer (some ⟨p, 0, none⟩), .pointer (some ⟨q, 0, none⟩), .agg #[.int .i64 k, .int .i64 c, .int .u64 v, .int .u64 u]] w (Acted w p g cap q r cap' s.X.length) := by
  have hx := apart_all hm hr hgr
  have hB := Blk.made w 34 #[.int .i64 k, .int .i64 c, .int .u64 v, .int .u64 u]
  have hm1 := hm.alloc (.cells #[.int .i64 k, .int .i64 c, .int .u64 v, .int .u64 u] 34)
  have hr1 := hr.alloc (.cells #[.int .i64 k, .int .i64 c, .int .u64 v, .int .u64 u] 34)
  have hz := size_fresh hr
  have hz' : w.heap.size ∉ [p, g] := by
    have a := hm.blk.lt
    have b := hm.row.lt
    simp only [List.mem_cons, List.not_mem_nil, or_false, not_or]
    exact ⟨by omega, by omega⟩
  have hN := Lib.hid (s.go_len)
  have HX := Lib.hid hx
  have HZ := Lib.hid hz
  have HZ' := Lib.hid hz'
  clear hm hr hgr hx hz hz'
  have hB2 := hB
  have b1 := hB2.at_ 1
  have hm3 := hm1
  have hr3 := hr1
  have hE := fun m => Lib.hid (acted_peek (o := (.cells #[.int .i64 k, .int .i64 c, .int .u64 v, .int .u64 u] 34)) rfl hm3 hr3 (Fr.refl _ _) m)
  clear hB hB2 hm1 hr1
  go_enter Try.func13, Try.ntmps13
  go_wp2_with fail
  go_quiet ((first
    | (go_at_call 18; exact quiet_here (peek_any (hm3.drewN _) c))
    | (go_at_call 28; exact quiet_here (rpeek_any (hr3.drewN _) c))))
  go_wp2
  go_ret
  exact (hE _).out

theorem kind_eight (k : Int) : ∃ m : Nat, m < 8 ∧ (wrap64 (k.tmod 8 + 8)).tmod 8 = (m : Int) := by
  have h1 := Int.tmod_lt_of_pos k (show (0 : Int) < 8 by omega)
  have h2 := Int.lt_tmod_of_pos k (show (0 : Int) < 8 by omega)
  have e : wrap64 (k.tmod 8 + 8) = k.tmod 8 + 8 := by unfold wrap64; omega
  rw [e, Int.tmod_eq_emod_of_nonneg (by omega)]
  exact ⟨((k.tmod 8 + 8) % 8).toNat, by omega, by omega⟩

theorem act_any {w : World} {p g cap q r cap' : Nat} {s : St} (hm : Mem w p g cap s) (hr : Ref w q r cap' s) (hgr : g ≠ r) (k c v u : Int) :
    Calls Try.prog 13 #[.pointer (some ⟨p, 0, none⟩), .pointer (some ⟨q, 0, none⟩), .agg #[.int .i64 k, .int .i64 c, .int .u64 v, .int .u64 u]] w (Acted w p g cap q r cap' s.X.length) := by
  obtain ⟨m, hlt, hk⟩ := kind_eight k
  obtain rfl | rfl | rfl | rfl | rfl | rfl | rfl | rfl : m = 0 ∨ m = 1 ∨ m = 2 ∨ m = 3 ∨ m = 4 ∨ m = 5 ∨ m = 6 ∨ m = 7 := by omega
  · exact act_load hm hr hgr k c v u hk
  · exact act_store hm hr hgr k c v u hk
  · exact act_cas hm hr hgr k c v u hk
  · exact act_or hm hr hgr k c v u hk
  · exact act_and hm hr hgr k c v u hk
  · exact act_add hm hr hgr k c v u hk
  · exact act_six hm hr hgr k c v u hk
  · exact act_seven hm hr hgr k c v u hk
end Go.Proofs.Ytbnaiogabcaboaa
