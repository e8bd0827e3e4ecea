/-
  Package parts: Run of a machine that runs another one, for each that levels run. (Written by wip/gen_lvr.py.)
-/
import Derived.Test.YtgipddeldddbnaaGreatLvB
import Derived.Test.YtgipddeldddbnaaGreatMgAW
import Derived.Test.YtgipddeldddbnaaGreatMgAV
import Derived.Test.YtgipddeldddbnaaGreatMgAB
import Derived.Shelf.Abstract
namespace Go.Proofs.YtgipddeldddbnaaGreat
open Go Go.RowKit Go.Shelf
set_option linter.unusedSimpArgs false

section
variable {w w' : World} {b : Nat} {ty : TypeId} {post : List Value} {f : Fra} {cd vl : Int} {u v : Value}
theorem LB.inn (h : LB w b ty (u :: post) f cd vl) : w.cell? ⟨b, 3, none⟩ = some u := by
  rw [h.blk.at_]
  rfl
theorem LB.putv (h : LB w b ty (u :: post) f cd vl) (v : Value) : LB (w.setCell ⟨b, 3, none⟩ v) b ty (v :: post) f cd vl := by
  refine ⟨?_, h.t1, h.t2, h.t3, h.t4⟩
  have hb := h.blk.put 3 v
  simp only [List.cons_append, List.nil_append, List.setIfInBounds_toArray, List.set_cons_zero, List.set_cons_succ] at hb
  exact hb
end
/-- What Run gives where the machine goes on: its block is q. -/
def RunOn (w : World) (p m k g cap : Nat) (s' : St) (t d : Int) (hd : List Value) (rv ev : Value) (b : Nat) (ty : TypeId) (post : List Value) (f : Fra) (ik : TypeId) (I : World → Nat → Prop) (S : List Nat) (q0 : Option Nat) (e : Ending) (w' : World) : Prop :=
  ∃ q : Nat, e = .returned (.tuple #[.int .i64 0, .int .i64 0, .bool false]) ∧ PE w' p m k g cap s' t d hd rv ev ∧ LB w' b ty (.iface ik (.pointer (some ⟨q, 0, none⟩)) :: post) f 0 0 ∧ I w' q ∧ Fr S w w' ∧ (q0 = some q ∨ q0 = none ∧ w.heap.size ≤ q)
/-- What Run gives where it is done. -/
def RunEnd (w : World) (p m k g cap : Nat) (s' : St) (t d : Int) (hd : List Value) (rv ev : Value) (b : Nat) (ty : TypeId) (post : List Value) (f : Fra) (cd vl : Int) (S : List Nat) (e : Ending) (w' : World) : Prop :=
  e = .returned (.tuple #[.int .i64 cd, .int .i64 vl, .bool true]) ∧ PE w' p m k g cap s' t d hd rv ev ∧ LB w' b ty (.nilIface :: post) f 0 0 ∧ Fr S w w'
section
variable {w w' : World} {p m k g cap : Nat} {s : St} {t d : Int} {hd : List Value} {rv ev : Value} {b : Nat} {ty : TypeId} {post : List Value} {f x : Fra}
set_option maxRecDepth 100000 in
set_option maxHeartbeats 4000000 in
theorem run_pusher_on (hp : PE w p m k g cap s t d hd rv ev) {q : Nat} (h : LB w b ty (.iface 163 (.pointer (some ⟨q, 0, none⟩)) :: post) f 0 0) (hti : ty ≠ 168) (ho : OB w q 168 [.int .i64 x.fa] x 0 0) (fn : Value) (hk : PushOk x) (hdn : (pushS s x).2.2.dn = false) :
    Calls Tryz.prog 68 #[.pointer (some ⟨b, 0, none⟩), .pointer (some ⟨p, 0, none⟩), fn] w (RunOn w p m k g cap (pushS s x).1 t d hd rv ev b ty post f 163 (fun w' q => OB w' q 168 [.int .i64 (pushS s x).2.1.fa] (pushS s x).2.1 0 0) [m, g, b, q] (some q)) := by
  have HD := Lib.hid hdn
  clear hdn
  have c3 := h.inn
  have km := meth_step_pusher q
  have ka := ahead_step_pusher q
  have P0 := Lib.hid hp
  have B0 := Lib.hid h
  have O0 := Lib.hid ho
  have HS := Lib.hid (pusher_any P0.out O0.out hk.1 hk.2.1 hk.2.2.2)
  clear hp h ho
  go_enter Tryz.func68, Tryz.ntmps68
  go_wp2_with fail
  (with_reducible refine HS.out.mono ?_)
  rintro e w3 ⟨rfl, hp3, hb3, hf3⟩
  rw [HD.out] at hb3
  rw [HD.out]
  have nq := B0.out.blk.apart O0.out.blk hti
  have n4 := B0.out.ne P0.out
  have B3 := Lib.hid (B0.out.fr hf3 (by simp [nq, n4.2.1, n4.2.2.2]))
  have P3 := Lib.hid hp3
  have F3 := Lib.hid (show Fr [m, g, b, q] w w3 from hf3.mono (fun y hy => by simp only [List.mem_cons, List.not_mem_nil, or_false] at hy ⊢; omega))
  have O3 := Lib.hid hb3
  clear hf3 hp3 hb3 nq n4 HS B0 O0 P0
  go_wp2_with fail
  go_ret3
  have hz := push_keeps.z s x HD.out
  have ho := O3.out
  simp only [Bool.false_eq_true, if_false] at ho
  rw [hz.1, hz.2] at ho
  rw [← (push_keeps.q s x).1] at ho
  refine ⟨q, rfl, P3.out, B3.out, ho, F3.out, .inl rfl⟩
set_option maxRecDepth 100000 in
set_option maxHeartbeats 4000000 in
theorem run_pusher_on_end (hp : PE w p m k g cap s t d hd rv ev) {q : Nat} (h : LB w b ty (.iface 163 (.pointer (some ⟨q, 0, none⟩)) :: post) f 0 0) (hti : ty ≠ 168) (ho : OB w q 168 [.int .i64 x.fa] x 0 0) (fn : Value) (hk : PushOk x) (hdn : (pushS s x).2.2.dn = true) :
    Calls Tryz.prog 68 #[.pointer (some ⟨b, 0, none⟩), .pointer (some ⟨p, 0, none⟩), fn] w (RunEnd w p m k g cap (pushS s x).1 t d hd rv ev b ty post f (pushS s x).2.2.cd (pushS s x).2.2.vl [m, g, b, q]) := by
  have HD := Lib.hid hdn
  clear hdn
  have c3 := h.inn
  have km := meth_step_pusher q
  have ka := ahead_step_pusher q
  have kr := meth_result_pusher q
  have kb := ahead_result_pusher q
  have P0 := Lib.hid hp
  have B0 := Lib.hid h
  have O0 := Lib.hid ho
  have HS := Lib.hid (pusher_any P0.out O0.out hk.1 hk.2.1 hk.2.2.2)
  clear hp h ho
  go_enter Tryz.func68, Tryz.ntmps68
  go_wp2_with fail
  (with_reducible refine HS.out.mono ?_)
  rintro e w3 ⟨rfl, hp3, hb3, hf3⟩
  rw [HD.out] at hb3
  rw [HD.out]
  have nq := B0.out.blk.apart O0.out.blk hti
  have n4 := B0.out.ne P0.out
  have B3 := Lib.hid (B0.out.fr hf3 (by simp [nq, n4.2.1, n4.2.2.2]))
  have P3 := Lib.hid hp3
  have F3 := Lib.hid (show Fr [m, g, b, q] w w3 from hf3.mono (fun y hy => by simp only [List.mem_cons, List.not_mem_nil, or_false] at hy ⊢; omega))
  have O3 := Lib.hid hb3
  clear hf3 hp3 hb3 nq n4 HS B0 O0 P0
  have c33 := B3.out.inn
  go_wp2_with fail
  (with_reducible refine (oresult_any O3.out).mono ?_)
  rintro e w4 ⟨rfl, nd, rfl⟩
  have B4 := Lib.hid (B3.out.drewN nd)
  have P4 := Lib.hid (P3.out.drewN nd)
  have F4 := Lib.hid (F3.out.drewN nd)
  have c34 := B4.out.inn
  have k34 := B4.out.free 3
  clear B3 P3 F3 O3 c33
  generalize w3.drewN nd = w5 at *
  go_wp2_with fail
  go_ret3
  have hs : Fr [b] w5 (w5.setCell ⟨b, 3, none⟩ .nilIface) := (Fr.refl _ _).setCell (by simp) _
  exact ⟨rfl, P4.out.lown B4.out hs, B4.out.putv _, F4.out.trans (hs.mono (by simp))⟩
set_option maxRecDepth 100000 in
set_option maxHeartbeats 4000000 in
theorem run_pusher_first (hp : PE w p m k g cap s t d hd rv ev) (h : LB w b ty (.nilIface :: post) f 0 0) (hti : ty ≠ 168) {fk : Nat} {fc : Array Value} (he : Enters Tryz.prog fk) (hf : Calls Tryz.prog fk fc w (fun e w' => ∃ q : Nat, e = .returned (.iface 163 (.pointer (some ⟨q, 0, none⟩))) ∧ OB w' q 168 [.int .i64 x.fa] x 0 0 ∧ w.heap.size ≤ q ∧ Below w.heap.size w w')) (hk : PushOk x) (hdn : (pushS s x).2.2.dn = false) :
    Calls Tryz.prog 68 #[.pointer (some ⟨b, 0, none⟩), .pointer (some ⟨p, 0, none⟩), .func (.func fk) #[] fc] w (RunOn w p m k g cap (pushS s x).1 t d hd rv ev b ty post f 163 (fun w' q => OB w' q 168 [.int .i64 (pushS s x).2.1.fa] (pushS s x).2.1 0 0) [m, g, b] none) := by
  have HD := Lib.hid hdn
  clear hdn
  have c3 := h.inn
  have k3 := h.free 3
  have P0 := Lib.hid hp
  have B0 := Lib.hid h
  have HF := Lib.hid hf
  have he' := fun (args : Array Value) (w : World) => he args w
  clear hp h hf he
  go_enter Tryz.func68, Tryz.ntmps68
  go_wp2_with fail
  (with_reducible refine HF.out.mono ?_)
  rintro e w1 ⟨q, rfl, ho1, hq1, hb1⟩
  have c31 := (B0.out.below hb1).inn
  have k31 := (B0.out.below hb1).free 3
  have hqb : q ≠ b := fun e => by have := B0.out.blk.lt; omega
  have km := meth_step_pusher q
  have ka := ahead_step_pusher q
  have hfs : Fr [b] w1 (w1.setCell ⟨b, 3, none⟩ (.iface 163 (.pointer (some ⟨q, 0, none⟩)))) := (Fr.refl _ _).setCell (by simp) _
  have P2 := Lib.hid ((P0.out.below hb1).lown (B0.out.below hb1) hfs)
  have O2 := Lib.hid (ho1.fr hfs (by simpa using hqb))
  have B2 := Lib.hid ((B0.out.below hb1).putv (.iface 163 (.pointer (some ⟨q, 0, none⟩))))
  have F2 := Lib.hid ((Fr.old (S := [m, g, b]) hb1).trans (hfs.mono (by simp)))
  have HQ := Lib.hid hq1
  have HS := Lib.hid (pusher_any P2.out O2.out hk.1 hk.2.1 hk.2.2.2)
  clear hb1 ho1 hq1 hfs c3 k3
  have c3 := B2.out.inn
  go_wp2_with fail
  generalize w1.setCell ⟨b, 3, none⟩ (.iface 163 (.pointer (some ⟨q, 0, none⟩))) = w2 at *
  (with_reducible refine HS.out.mono ?_)
  rintro e w3 ⟨rfl, hp3, hb3, hf3⟩
  rw [HD.out] at hb3
  rw [HD.out]
  have nq := B2.out.blk.apart O2.out.blk hti
  have n4 := B2.out.ne P2.out
  have B3 := Lib.hid (B2.out.fr hf3 (by simp [nq, n4.2.1, n4.2.2.2]))
  have P3 := Lib.hid hp3
  have F3 := Lib.hid (Fr.drop (T := [m, g, q]) F2.out hf3 (fun y hy => by simp only [List.mem_cons, List.not_mem_nil, or_false] at hy; rcases hy with rfl | rfl | rfl; exact .inl (by simp); exact .inl (by simp); exact .inr HQ.out))
  have O3 := Lib.hid hb3
  clear hf3 hp3 hb3 nq n4 HS B2 O2 P2
  go_wp2_with fail
  go_ret3
  have hz := push_keeps.z s x HD.out
  have ho := O3.out
  simp only [Bool.false_eq_true, if_false] at ho
  rw [hz.1, hz.2] at ho
  rw [← (push_keeps.q s x).1] at ho
  refine ⟨q, rfl, P3.out, B3.out, ho, F3.out, .inr ⟨rfl, HQ.out⟩⟩
set_option maxRecDepth 100000 in
set_option maxHeartbeats 4000000 in
theorem run_setter_first_end (hp : PE w p m k g cap s t d hd rv ev) (h : LB w b ty (.nilIface :: post) f 0 0) (hti : ty ≠ 176) {fk : Nat} {fc : Array Value} (he : Enters Tryz.prog fk) (hf : Calls Tryz.prog fk fc w (fun e w' => ∃ q : Nat, e = .returned (.iface 171 (.pointer (some ⟨q, 0, none⟩))) ∧ LB w' q 176 [.int .i64 x.fa, .int .u64 (maskS x.fb)] x 0 0 ∧ w.heap.size ≤ q ∧ Below w.heap.size w w')) (hk : SetOk x) (hdn : (setS s x).2.2.dn = true) :
    Calls Tryz.prog 68 #[.pointer (some ⟨b, 0, none⟩), .pointer (some ⟨p, 0, none⟩), .func (.func fk) #[] fc] w (RunEnd w p m k g cap (setS s x).1 t d hd rv ev b ty post f (setS s x).2.2.cd (setS s x).2.2.vl [m, g, b]) := by
  have HD := Lib.hid hdn
  clear hdn
  have c3 := h.inn
  have k3 := h.free 3
  have P0 := Lib.hid hp
  have B0 := Lib.hid h
  have HF := Lib.hid hf
  have he' := fun (args : Array Value) (w : World) => he args w
  clear hp h hf he
  go_enter Tryz.func68, Tryz.ntmps68
  go_wp2_with fail
  (with_reducible refine HF.out.mono ?_)
  rintro e w1 ⟨q, rfl, ho1, hq1, hb1⟩
  have c31 := (B0.out.below hb1).inn
  have k31 := (B0.out.below hb1).free 3
  have hqb : q ≠ b := fun e => by have := B0.out.blk.lt; omega
  have km := meth_step_setter q
  have ka := ahead_step_setter q
  have kr := meth_result_setter q
  have kb := ahead_result_setter q
  have hfs : Fr [b] w1 (w1.setCell ⟨b, 3, none⟩ (.iface 171 (.pointer (some ⟨q, 0, none⟩)))) := (Fr.refl _ _).setCell (by simp) _
  have P2 := Lib.hid ((P0.out.below hb1).lown (B0.out.below hb1) hfs)
  have O2 := Lib.hid (ho1.fr hfs (by simpa using hqb))
  have B2 := Lib.hid ((B0.out.below hb1).putv (.iface 171 (.pointer (some ⟨q, 0, none⟩))))
  have F2 := Lib.hid ((Fr.old (S := [m, g, b]) hb1).trans (hfs.mono (by simp)))
  have HQ := Lib.hid hq1
  have HS := Lib.hid (setter_any P2.out O2.out hk.1)
  clear hb1 ho1 hq1 hfs c3 k3
  have c3 := B2.out.inn
  go_wp2_with fail
  generalize w1.setCell ⟨b, 3, none⟩ (.iface 171 (.pointer (some ⟨q, 0, none⟩))) = w2 at *
  (with_reducible refine HS.out.mono ?_)
  rintro e w3 ⟨rfl, hp3, hb3, hf3⟩
  rw [HD.out] at hb3
  rw [HD.out]
  have nq := B2.out.blk.apart O2.out.blk hti
  have n4 := B2.out.ne P2.out
  have B3 := Lib.hid (B2.out.fr hf3 (by simp [nq, n4.2.1, n4.2.2.2]))
  have P3 := Lib.hid hp3
  have F3 := Lib.hid (Fr.drop (T := [m, g, q]) F2.out hf3 (fun y hy => by simp only [List.mem_cons, List.not_mem_nil, or_false] at hy; rcases hy with rfl | rfl | rfl; exact .inl (by simp); exact .inl (by simp); exact .inr HQ.out))
  have O3 := Lib.hid hb3
  clear hf3 hp3 hb3 nq n4 HS B2 O2 P2
  have c33 := B3.out.inn
  go_wp2_with fail
  (with_reducible refine (lresult_any O3.out).mono ?_)
  rintro e w4 ⟨rfl, nd, rfl⟩
  have B4 := Lib.hid (B3.out.drewN nd)
  have P4 := Lib.hid (P3.out.drewN nd)
  have F4 := Lib.hid (F3.out.drewN nd)
  have c34 := B4.out.inn
  have k34 := B4.out.free 3
  clear B3 P3 F3 O3 c33
  generalize w3.drewN nd = w5 at *
  go_wp2_with fail
  go_ret3
  have hs : Fr [b] w5 (w5.setCell ⟨b, 3, none⟩ .nilIface) := (Fr.refl _ _).setCell (by simp) _
  exact ⟨rfl, P4.out.lown B4.out hs, B4.out.putv _, F4.out.trans (hs.mono (by simp))⟩
end
end Go.Proofs.YtgipddeldddbnaaGreat
