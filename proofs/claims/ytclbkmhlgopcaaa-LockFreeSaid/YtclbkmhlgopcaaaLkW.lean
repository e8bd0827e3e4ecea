/-
  The laws of the lock: what the lock contains, machines alone, the chapter's example.
-/
import Derived.Test.YtclbkmhlgopcaaaMgAS
import Derived.Test.YtclbkmhlgopcaaaMgBV
namespace Go.Proofs.Ytclbkmhlgopcaaa
open Go Go.RowKit Go.Shelf
set_option linter.unusedSimpArgs false
set_option linter.unusedVariables false

/-- The lock contains v. -/
structure LK (s : St) (v : Int) : Prop where
  h : s.has 1
  o : s.old 1 = v
  u : s.U
theorem LK.got {s : St} (h : LK s 0) (a : Int) : s.hit 1 0 = true ∧ LK (lkTake s a) (lkU a) := by
  refine ⟨by simp [St.hit, h.h, h.o], (go_has ..).2 h.h, ?_, go_U h.u _ _ _ (fun x hx => ?_)⟩
  · unfold lkTake
    rw [go_old _ _ _ _ h.h, h.o, if_pos rfl]
  · split
    · exact uw_wrap _
    · exact hx
theorem LK.busy {s : St} {v : Int} (h : LK s v) (hv : v ≠ 0) (a : Int) : s.hit 1 0 = false ∧ LK (lkTake s a) v := by
  refine ⟨by simp [St.hit, h.h, h.o, hv], (go_has ..).2 h.h, ?_, go_U h.u _ _ _ (fun x hx => ?_)⟩
  · unfold lkTake
    rw [go_old _ _ _ _ h.h, h.o, if_neg hv]
  · split
    · exact uw_wrap _
    · exact hx
theorem LK.free {s : St} {v : Int} (h : LK s v) (f : Fra) : LK (relS s f).1 0 := by
  refine ⟨(go_has ..).2 h.h, ?_, go_U h.u _ _ _ (fun x hx => uw_zero)⟩
  show (s.go 2 1 fun _ => 0).old 1 = 0
  rw [go_old _ _ _ _ h.h]
theorem lkU_small {a : Int} (h : 0 ≤ a ∧ a ≤ 1000) : lkU a = a + 1 := by
  unfold lkU
  rw [IntKind.wrap_u64, IntKind.wrap_u64]
  omega
/-- The configuration of no bytes. -/
theorem nil_cells : (rCells (decC (strm []))).toNat = 16 := by decide +kernel
theorem nil_LK {c : Cfg} (h : decC (strm []) = c) : LK (St.new (rCells c).toNat) 0 := by
  subst h
  rw [nil_cells]
  exact ⟨by unfold St.has; decide, new_old _ _, new_U _⟩

/-- What a machine alone leaves that is done with its first step. -/
def LkDone (w : World) (p m k g cap : Nat) (s' : St) (t d : Int) (hd : List Value) (rv ev : Value) (q : Nat) (cd : Int) (e : Ending) (w' : World) : Prop :=
  e = .returned (.tuple #[.int .i64 cd, .int .i64 0, .int .i64 1]) ∧ PE w' p m k g cap s' t d hd rv ev ∧ Fr [m, g, q] w w'
section
variable {w : World} {p m k g cap : Nat} {s : St} {t d : Int} {hd : List Value} {rv ev : Value} {q : Nat} {f : Fra} {c : Cfg} {v most : Int}
theorem acq_got (hp : PE w p m k g cap s t d hd rv ev) (hlay : LayHd hd c) (h : LB w q 76 [.int .i64 f.fa] f 0 0) (hl : f.ln = 1) (hk : LK s 0) (hm : 0 < most) :
    Calls Try.prog 13 #[.pointer (some ⟨p, 0, none⟩), .iface 72 (.pointer (some ⟨q, 0, none⟩)), .int .i64 most] w (LkDone w p m k g cap (lkTake s f.fa) t d hd rv ev q 1) := by
  have e : (acqS s f).2.2 = ⟨true, 1, 0⟩ := by show (if s.hit 1 0 then _ else _) = _; rw [if_pos (hk.got f.fa).1]
  have := alone_acquirer hp hlay h hl (by rw [e]) hm
  rw [e] at this
  exact this.mono fun e w' h => h
theorem try_got (hp : PE w p m k g cap s t d hd rv ev) (hlay : LayHd hd c) (h : LB w q 78 [.int .i64 f.fa] f 0 0) (hl : f.ln = 1) (hk : LK s 0) (hm : 0 < most) :
    Calls Try.prog 13 #[.pointer (some ⟨p, 0, none⟩), .iface 77 (.pointer (some ⟨q, 0, none⟩)), .int .i64 most] w (LkDone w p m k g cap (lkTake s f.fa) t d hd rv ev q 1) := by
  have e : (tryS s f).2.2 = ⟨true, 1, 0⟩ := by show (if s.hit 1 0 then _ else _) = _; rw [if_pos (hk.got f.fa).1]
  have := alone_trier hp hlay h hl (by rw [e]) hm
  rw [e] at this
  exact this.mono fun e w' h => h
theorem try_busy (hp : PE w p m k g cap s t d hd rv ev) (hlay : LayHd hd c) (h : LB w q 78 [.int .i64 f.fa] f 0 0) (hl : f.ln = 1) (hk : LK s v) (hv : v ≠ 0) (hm : 0 < most) :
    Calls Try.prog 13 #[.pointer (some ⟨p, 0, none⟩), .iface 77 (.pointer (some ⟨q, 0, none⟩)), .int .i64 most] w (LkDone w p m k g cap (lkTake s f.fa) t d hd rv ev q 5) := by
  have e : (tryS s f).2.2 = ⟨true, 5, 0⟩ := by show (if s.hit 1 0 then _ else _) = _; rw [(hk.busy hv f.fa).1, if_neg (by decide)]
  have := alone_trier hp hlay h hl (by rw [e]) hm
  rw [e] at this
  exact this.mono fun e w' h => h
theorem rel_alone (hp : PE w p m k g cap s t d hd rv ev) (hlay : LayHd hd c) (h : LB w q 71 [] f 0 0) (hl : f.ln = 1) (hm : 0 < most) :
    Calls Try.prog 13 #[.pointer (some ⟨p, 0, none⟩), .iface 66 (.pointer (some ⟨q, 0, none⟩)), .int .i64 most] w (LkDone w p m k g cap (relS s f).1 t d hd rv ev q 0) :=
  (alone_releaser hp hlay h hl rfl hm).mono fun e w' h => h
end

set_option maxRecDepth 100000 in
set_option maxHeartbeats 8000000 in
theorem awake15_any (w : World) : Calls Try.prog 7 #[] w fun e w' => e = .returned (.bool true) ∧ Below w.heap.size w w' := by
  go_enter Try.func7, Try.ntmps7
  go_wp2_with fail
  (with_reducible refine (config_any (inB_nil w w.heap.size none) 0).mono ?_)
  rintro e w1 ⟨u, rfl, hcfg, hb1⟩
  obtain ⟨c, hcd⟩ : ∃ c, decC (strm []) = c := ⟨_, rfl⟩
  rw [hcd] at hcfg
  have hck := chk_dec (strm [])
  rw [hcd] at hck
  have HCK := Lib.hid (And.intro hcd hck)
  obtain ⟨pa, pn, pc, sa, sn, sc, rfl, hl⟩ := hcfg.isCfg
  have H1 := Lib.hid hl
  have B1 := Lib.hid hb1
  clear hl hb1 hcd hck hcfg
  go_wp2_with fail
  (with_reducible refine (enew_any H1.out _ _ HCK.out.2).mono ?_)
  rintro e w2 ⟨p, m, k, g, hd, rv, rfl, hE⟩
  have K2 := Lib.hid (nil_LK HCK.out.1)
  have E2 := Lib.hid (show EW w p m k g _ c hd rv (.slice none 0 0) _ w2 from ⟨hE.e, hE.l, hE.i, hE.u, B1.out.trans (hE.b.mono B1.out.size), by have := hE.lo; have := B1.out.size; omega⟩)
  have e20 := E2.out.e.at20
  clear hE H1 B1
  generalize (rCells c).toNat = cap at *
  generalize St.new cap = s0 at *
  go_wp2_with fail
  (with_reducible refine (acquirer_new 0 _).mono ?_)
  rintro e w3 ⟨b3, rfl, hv, hbl, hb⟩
  have E3 := Lib.hid (E2.out.below hb)
  have HA := Lib.hid (acq_got (most := 5) (f := fra1 7 0 0 0 0 0) E3.out.e E3.out.l hv rfl K2.out (by decide))
  have K3 := Lib.hid (K2.out.got 0).2
  have HBL := Lib.hid (Nat.le_trans E2.out.b.size hbl)
  clear hv hbl hb E2 e20
  go_wp2_with fail
  (with_reducible refine HA.out.mono ?_)
  rintro e w4 ⟨rfl, hp, hf⟩
  have E4 := Lib.hid (E3.out.done HBL.out hp hf K3.out.u)
  clear hp hf HA HBL E3
  go_wp2_with fail
  (with_reducible refine (trier_new 1 _).mono ?_)
  rintro e w5 ⟨b5, rfl, hv, hbl, hb⟩
  have E5 := Lib.hid (E4.out.below hb)
  have HA := Lib.hid (try_busy (most := 5) (f := fra1 8 0 0 0 0 1) E5.out.e E5.out.l hv rfl K3.out (by rw [lkU_small (by decide)]; decide) (by decide))
  have K5 := Lib.hid (K3.out.busy (by rw [lkU_small (by decide)]; decide) 1).2
  have HBL := Lib.hid (Nat.le_trans E4.out.b.size hbl)
  clear hv hbl hb E4
  go_wp2_with fail
  (with_reducible refine HA.out.mono ?_)
  rintro e w6 ⟨rfl, hp, hf⟩
  have E6 := Lib.hid (E5.out.done HBL.out hp hf K5.out.u)
  have e20 := E6.out.e.at20
  clear hp hf HA HBL E5
  go_wp2_with fail
  (with_reducible refine (peek_any E6.out.e.mem _).mono ?_)
  rintro e w7 ⟨rfl, rfl⟩
  rw [K5.out.o, lkU_small (by decide)]
  clear e20
  go_wp2_with fail
  (with_reducible refine (releaser_new _).mono ?_)
  rintro e w8 ⟨b8, rfl, hv, hbl, hb⟩
  have E8 := Lib.hid (E6.out.below hb)
  have HA := Lib.hid (rel_alone (most := 5) (f := fra1 9 0 0 0 0 0) E8.out.e E8.out.l hv rfl (by decide))
  have K8 := Lib.hid (K5.out.free (fra1 9 0 0 0 0 0))
  have HBL := Lib.hid (Nat.le_trans E6.out.b.size hbl)
  clear hv hbl hb E6
  go_wp2_with fail
  (with_reducible refine HA.out.mono ?_)
  rintro e w9 ⟨rfl, hp, hf⟩
  have E9 := Lib.hid (E8.out.done HBL.out hp hf K8.out.u)
  clear hp hf HA HBL E8
  go_wp2_with fail
  (with_reducible refine (trier_new 1 _).mono ?_)
  rintro e w10 ⟨b10, rfl, hv, hbl, hb⟩
  have E10 := Lib.hid (E9.out.below hb)
  have HA := Lib.hid (try_got (most := 5) (f := fra1 8 0 0 0 0 1) E10.out.e E10.out.l hv rfl K8.out (by decide))
  have K10 := Lib.hid (K8.out.got 1).2
  have HBL := Lib.hid (Nat.le_trans E9.out.b.size hbl)
  clear hv hbl hb E9
  go_wp2_with fail
  (with_reducible refine HA.out.mono ?_)
  rintro e w11 ⟨rfl, hp, hf⟩
  have E11 := Lib.hid (E10.out.done HBL.out hp hf K10.out.u)
  have e20 := E11.out.e.at20
  clear hp hf HA HBL E10
  go_wp2_with fail
  (with_reducible refine (peek_any E11.out.e.mem _).mono ?_)
  rintro e w12 ⟨rfl, rfl⟩
  rw [K10.out.o, lkU_small (by decide)]
  go_wp2
  go_ret
  exact ⟨rfl, E11.out.b⟩
end Go.Proofs.Ytclbkmhlgopcaaa
