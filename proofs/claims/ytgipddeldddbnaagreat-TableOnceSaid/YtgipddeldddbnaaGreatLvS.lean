/-
  Package levels: the steps of its machines, case by case. (Written by wip/gen_lvs.py.)
-/
import Derived.Test.YtgipddeldddbnaaGreatLvR
namespace Go.Proofs.YtgipddeldddbnaaGreat
open Go Go.RowKit Go.Shelf
set_option linter.unusedSimpArgs false
set_option linter.unusedVariables false

theorem fr_cell {w w' : World} {S : List Nat} (h : Fr S w w') {x : Nat} (hx : x < w.heap.size) (hn : x ∉ S) (o : Nat) : w'.cell? ⟨x, o, none⟩ = w.cell? ⟨x, o, none⟩ := by
  have e := h.block x hx hn
  unfold World.cell?
  rw [e]
/-- A step behind which an inner machine is at work: its block is q. -/
def VOn (w : World) (p m k g cap : Nat) (s' : St) (t d : Int) (hd : List Value) (rv ev : Value) (b : Nat) (ty : TypeId) (post : List Value) (f : Fra) (ik : TypeId) (I : World → Nat → Prop) (S : List Nat) (q0 : Option Nat) (e : Ending) (w' : World) : Prop :=
  ∃ q : Nat, e = .returned (.bool false) ∧ PE w' p m k g cap s' t d hd rv ev ∧ LB w' b ty (.iface ik (.pointer (some ⟨q, 0, none⟩)) :: post) f 0 0 ∧ I w' q ∧ Fr S w w' ∧ (q0 = some q ∨ q0 = none ∧ w.heap.size ≤ q)
/-- .. none is. -/
def VNo (w : World) (p m k g cap : Nat) (s' : St) (t d : Int) (hd : List Value) (rv ev : Value) (b : Nat) (ty : TypeId) (post : List Value) (f : Fra) (r : Res) (S : List Nat) (e : Ending) (w' : World) : Prop :=
  e = .returned (.bool r.dn) ∧ PE w' p m k g cap s' t d hd rv ev ∧ LB w' b ty (.nilIface :: post) (if r.dn then { f with ln := 0 } else f) r.cd r.vl ∧ Fr S w w'
section
variable {w w' : World} {p m k g cap : Nat} {s : St} {t d : Int} {hd : List Value} {rv ev : Value} {c : Cfg} {b : Nat} {f x : Fra}
set_option maxRecDepth 100000 in
set_option maxHeartbeats 4000000 in
theorem lvpusher_1f (hp : PE w p m k g cap s t d hd rv ev) (hl : LayHd hd c) (hin : CfgIn c) (h : LB w b 151 (.nilIface :: [.int .i64 f.fa, .int .i64 f.fb, .int .i64 f.fd]) f 0 0) (hln : f.ln = 1) (hk : PushOk (fra1 0 (rQueue c f.fa f.fb).1 (rQueue c f.fa f.fb).2.1 (rQueue c f.fa f.fb).2.2.1 (rQueue c f.fa f.fb).2.2.2 f.fd)) (hdn : (pushS s (fra1 0 (rQueue c f.fa f.fb).1 (rQueue c f.fa f.fb).2.1 (rQueue c f.fa f.fb).2.2.1 (rQueue c f.fa f.fb).2.2.2 f.fd)).2.2.dn = false) :
    Calls Tryz.prog 98 #[.pointer (some ⟨b, 0, none⟩), .pointer (some ⟨p, 0, none⟩)] w (VOn w p m k g cap (pushS s (fra1 0 (rQueue c f.fa f.fb).1 (rQueue c f.fa f.fb).2.1 (rQueue c f.fa f.fb).2.2.1 (rQueue c f.fa f.fb).2.2.2 f.fd)).1 t d hd rv ev b 151 [.int .i64 f.fa, .int .i64 f.fb, .int .i64 f.fd] f 163 (fun w' q => OB w' q 168 [.int .i64 (pushS s (fra1 0 (rQueue c f.fa f.fb).1 (rQueue c f.fa f.fb).2.1 (rQueue c f.fa f.fb).2.2.1 (rQueue c f.fa f.fb).2.2.2 f.fd)).2.1.fa] (pushS s (fra1 0 (rQueue c f.fa f.fb).1 (rQueue c f.fa f.fb).2.1 (rQueue c f.fa f.fb).2.2.1 (rQueue c f.fa f.fb).2.2.2 f.fd)).2.1 0 0) [m, g, b] none) := by
  have hmf : ∀ (fn : Fn) (first cap : Array Value) (w : World), (Instr.makeFunc fn first cap).run Tryz.prog w = .ok (.func fn first cap) w := fun _ _ _ _ => rfl
  have HDN := Lib.hid hdn
  have HK := Lib.hid hk
  clear hdn hk
  have P0 := Lib.hid hp
  have B0 := Lib.hid h
  have hA := below_one w (.cells #[.pointer (some ⟨b, 0, none⟩)] 147)
  have hx0 := Blk.made w 147 #[.pointer (some ⟨b, 0, none⟩)]
  go_enter Tryz.func98, Tryz.ntmps98
  go_upto_region 1 with fail
  have hs1 : (w.alloc (.cells #[.pointer (some ⟨b, 0, none⟩)] 147)).heap.size = w.heap.size + 1 := by simp
  have hy0 := Blk.made (w.alloc (.cells #[.pointer (some ⟨b, 0, none⟩)] 147)) 23 #[.pointer (some ⟨p, 0, none⟩)]
  rw [hs1] at hy0
  have hx1 := hx0.alloc (.cells #[.pointer (some ⟨p, 0, none⟩)] 23)
  have hA2 := hA.alloc hA.size (.cells #[.pointer (some ⟨p, 0, none⟩)] 23)
  generalize (w.alloc (.cells #[.pointer (some ⟨b, 0, none⟩)] 147)).alloc (.cells #[.pointer (some ⟨p, 0, none⟩)] 23) = W1 at *
  have P1 := Lib.hid (P0.out.below hA2)
  have B1 := Lib.hid (B0.out.below hA2)
  have d0 : W1.cell? ⟨w.heap.size, 0, none⟩ = some (.pointer (some ⟨b, 0, none⟩)) := hx1.at_ 0
  have d1 : W1.cell? ⟨w.heap.size + 1, 0, none⟩ = some (.pointer (some ⟨p, 0, none⟩)) := hy0.at_ 0
  have lx := Lib.hid (And.intro hx1.lt hy0.lt)
  have HA := Lib.hid hA2
  have hc0 := lline_any B1.out
  rw [hln] at hc0
  have HC0 := Lib.hid hc0
  have N0 := Lib.hid (B0.out.ne P0.out)
  have L0 := Lib.hid (show b < w.heap.size ∧ m < w.heap.size ∧ g < w.heap.size from ⟨B0.out.blk.lt, P0.out.mem.blk.lt, P0.out.mem.row.lt⟩)
  clear hc0 hx1 hy0 hx0 hA hA2 hs1 hp h
  generalize hz : w.heap.size = z at *
  have HZ := Lib.hid hz
  clear hz
  go_wp2_with fail
  (with_reducible refine HC0.out.mono ?_)
  rintro e wx ⟨rfl, rfl⟩
  clear HC0
  go_upto_region 3 with fail
  have P2 := Lib.hid (P1.out.drewN 1)
  have B2 := Lib.hid B1.out.drew
  have HA2 := Lib.hid (below_drew HA.out)
  have y0 : W1.drew.cell? ⟨z, 0, none⟩ = some (.pointer (some ⟨b, 0, none⟩)) := d0
  have y1 : W1.drew.cell? ⟨z + 1, 0, none⟩ = some (.pointer (some ⟨p, 0, none⟩)) := d1
  go_region_held3 (fun w' => w'.cell? ⟨z, 0, none⟩ = some (.pointer (some ⟨b, 0, none⟩)) ∧ w'.cell? ⟨z + 1, 0, none⟩ = some (.pointer (some ⟨p, 0, none⟩))) ((first | exact ⟨a0, a1⟩ | exact ⟨y0, y1⟩ | go_keep))
    ((go_at_call 68
      refine (run_pusher_first P2.out B2.out (by decide) (enters_of Tryz.func99 (by kernel_rfl) rfl) (lvpush_fn P2.out hl hin B2.out.blk y0 y1 lx.out.1 lx.out.2 rfl rfl rfl) HK.out HDN.out).mono ?_
      rintro e w3 ⟨q3, rfl, hp3, hb3, ho3, hf3, hq3⟩
      have n0 : z ∉ [m, g, b] := by simp only [List.mem_cons, List.not_mem_nil, or_false]; have := L0.out; omega
      have n1 : z + 1 ∉ [m, g, b] := by simp only [List.mem_cons, List.not_mem_nil, or_false]; have := L0.out; omega
      have a0 : w3.cell? ⟨z, 0, none⟩ = some (.pointer (some ⟨b, 0, none⟩)) := by rw [fr_cell hf3 lx.out.1 n0]; exact y0
      have a1 : w3.cell? ⟨z + 1, 0, none⟩ = some (.pointer (some ⟨p, 0, none⟩)) := by rw [fr_cell hf3 lx.out.2 n1]; exact y1
      have P3 := Lib.hid hp3
      have B3 := Lib.hid hb3
      have F3 := Lib.hid ((Fr.old (S := [m, g, b]) (show Below w.heap.size w W1.drew from HZ.out.symm ▸ HA2.out)).trans hf3)
      have HO3 := Lib.hid (And.intro ho3 hq3)
      clear ho3 hq3
      clear hp3 hb3 hf3 n0 n1))
  go_wp2
  go_ret
  refine ⟨q3, rfl, P3.out, B3.out, HO3.out.1, F3.out, ?_⟩
  rcases HO3.out.2 with hq | ⟨_, hq⟩
  · cases hq
  · replace hq : W1.drew.heap.size ≤ q3 := hq
    have h1 := (below_drew HA.out).size
    have h2 := HZ.out
    exact .inr ⟨rfl, by omega⟩
set_option maxRecDepth 100000 in
set_option maxHeartbeats 4000000 in
theorem lvpusher_1n (hp : PE w p m k g cap s t d hd rv ev) (hl : LayHd hd c) (hin : CfgIn c) {q : Nat} (h : LB w b 151 (.iface 163 (.pointer (some ⟨q, 0, none⟩)) :: [.int .i64 f.fa, .int .i64 f.fb, .int .i64 f.fd]) f 0 0) (hln : f.ln = 1) (ho : OB w q 168 [.int .i64 x.fa] x 0 0) (hk : PushOk x) (hdn : (pushS s x).2.2.dn = false) :
    Calls Tryz.prog 98 #[.pointer (some ⟨b, 0, none⟩), .pointer (some ⟨p, 0, none⟩)] w (VOn w p m k g cap (pushS s x).1 t d hd rv ev b 151 [.int .i64 f.fa, .int .i64 f.fb, .int .i64 f.fd] f 163 (fun w' q => OB w' q 168 [.int .i64 (pushS s x).2.1.fa] (pushS s x).2.1 0 0) [m, g, b, q] (some q)) := by
  have hmf : ∀ (fn : Fn) (first cap : Array Value) (w : World), (Instr.makeFunc fn first cap).run Tryz.prog w = .ok (.func fn first cap) w := fun _ _ _ _ => rfl
  have HDN := Lib.hid hdn
  have HK := Lib.hid hk
  clear hdn hk
  have P0 := Lib.hid hp
  have B0 := Lib.hid h
  have hA := below_one w (.cells #[.pointer (some ⟨b, 0, none⟩)] 147)
  have hx0 := Blk.made w 147 #[.pointer (some ⟨b, 0, none⟩)]
  go_enter Tryz.func98, Tryz.ntmps98
  go_upto_region 1 with fail
  have hs1 : (w.alloc (.cells #[.pointer (some ⟨b, 0, none⟩)] 147)).heap.size = w.heap.size + 1 := by simp
  have hy0 := Blk.made (w.alloc (.cells #[.pointer (some ⟨b, 0, none⟩)] 147)) 23 #[.pointer (some ⟨p, 0, none⟩)]
  rw [hs1] at hy0
  have hx1 := hx0.alloc (.cells #[.pointer (some ⟨p, 0, none⟩)] 23)
  have hA2 := hA.alloc hA.size (.cells #[.pointer (some ⟨p, 0, none⟩)] 23)
  generalize (w.alloc (.cells #[.pointer (some ⟨b, 0, none⟩)] 147)).alloc (.cells #[.pointer (some ⟨p, 0, none⟩)] 23) = W1 at *
  have P1 := Lib.hid (P0.out.below hA2)
  have B1 := Lib.hid (B0.out.below hA2)
  have d0 : W1.cell? ⟨w.heap.size, 0, none⟩ = some (.pointer (some ⟨b, 0, none⟩)) := hx1.at_ 0
  have d1 : W1.cell? ⟨w.heap.size + 1, 0, none⟩ = some (.pointer (some ⟨p, 0, none⟩)) := hy0.at_ 0
  have lx := Lib.hid (And.intro hx1.lt hy0.lt)
  have HA := Lib.hid hA2
  have hc0 := lline_any B1.out
  rw [hln] at hc0
  have HC0 := Lib.hid hc0
  have N0 := Lib.hid (B0.out.ne P0.out)
  have L0 := Lib.hid (show b < w.heap.size ∧ m < w.heap.size ∧ g < w.heap.size from ⟨B0.out.blk.lt, P0.out.mem.blk.lt, P0.out.mem.row.lt⟩)
  have O1 := Lib.hid (ho.below hA2)
  have LQ := Lib.hid ho.blk.lt
  clear ho
  clear hc0 hx1 hy0 hx0 hA hA2 hs1 hp h
  generalize hz : w.heap.size = z at *
  have HZ := Lib.hid hz
  clear hz
  go_wp2_with fail
  (with_reducible refine HC0.out.mono ?_)
  rintro e wx ⟨rfl, rfl⟩
  clear HC0
  go_upto_region 3 with fail
  have P2 := Lib.hid (P1.out.drewN 1)
  have B2 := Lib.hid B1.out.drew
  have HA2 := Lib.hid (below_drew HA.out)
  have y0 : W1.drew.cell? ⟨z, 0, none⟩ = some (.pointer (some ⟨b, 0, none⟩)) := d0
  have y1 : W1.drew.cell? ⟨z + 1, 0, none⟩ = some (.pointer (some ⟨p, 0, none⟩)) := d1
  have O2 := Lib.hid O1.out.drew
  go_region_held3 (fun w' => w'.cell? ⟨z, 0, none⟩ = some (.pointer (some ⟨b, 0, none⟩)) ∧ w'.cell? ⟨z + 1, 0, none⟩ = some (.pointer (some ⟨p, 0, none⟩))) ((first | exact ⟨a0, a1⟩ | exact ⟨y0, y1⟩ | go_keep))
    ((go_at_call 68
      refine (run_pusher_on P2.out B2.out (by decide) O2.out _ HK.out HDN.out).mono ?_
      rintro e w3 ⟨q3, rfl, hp3, hb3, ho3, hf3, hq3⟩
      have n0 : z ∉ [m, g, b, q] := by simp only [List.mem_cons, List.not_mem_nil, or_false]; have := L0.out; have := LQ.out; omega
      have n1 : z + 1 ∉ [m, g, b, q] := by simp only [List.mem_cons, List.not_mem_nil, or_false]; have := L0.out; have := LQ.out; omega
      have a0 : w3.cell? ⟨z, 0, none⟩ = some (.pointer (some ⟨b, 0, none⟩)) := by rw [fr_cell hf3 lx.out.1 n0]; exact y0
      have a1 : w3.cell? ⟨z + 1, 0, none⟩ = some (.pointer (some ⟨p, 0, none⟩)) := by rw [fr_cell hf3 lx.out.2 n1]; exact y1
      have P3 := Lib.hid hp3
      have B3 := Lib.hid hb3
      have F3 := Lib.hid ((Fr.old (S := [m, g, b, q]) (show Below w.heap.size w W1.drew from HZ.out.symm ▸ HA2.out)).trans hf3)
      have HO3 := Lib.hid (And.intro ho3 hq3)
      clear ho3 hq3
      clear hp3 hb3 hf3 n0 n1))
  go_wp2
  go_ret
  refine ⟨q3, rfl, P3.out, B3.out, HO3.out.1, F3.out, ?_⟩
  rcases HO3.out.2 with hq | ⟨hq, _⟩
  · exact .inl hq
  · cases hq
set_option maxRecDepth 100000 in
set_option maxHeartbeats 4000000 in
theorem lvpusher_1e (hp : PE w p m k g cap s t d hd rv ev) (hl : LayHd hd c) (hin : CfgIn c) {q : Nat} (h : LB w b 151 (.iface 163 (.pointer (some ⟨q, 0, none⟩)) :: [.int .i64 f.fa, .int .i64 f.fb, .int .i64 f.fd]) f 0 0) (hln : f.ln = 1) (ho : OB w q 168 [.int .i64 x.fa] x 0 0) (hk : PushOk x) (hdn : (pushS s x).2.2.dn = true) (hc : (pushS s x).2.2.cd = 3) :
    Calls Tryz.prog 98 #[.pointer (some ⟨b, 0, none⟩), .pointer (some ⟨p, 0, none⟩)] w (VNo w p m k g cap (pushS s x).1 t d hd rv ev b 151 [.int .i64 f.fa, .int .i64 f.fb, .int .i64 f.fd] f ⟨true, 3, 0⟩ [m, g, b, q]) := by
  have hmf : ∀ (fn : Fn) (first cap : Array Value) (w : World), (Instr.makeFunc fn first cap).run Tryz.prog w = .ok (.func fn first cap) w := fun _ _ _ _ => rfl
  have HDN := Lib.hid hdn
  have HK := Lib.hid hk
  clear hdn hk
  have P0 := Lib.hid hp
  have B0 := Lib.hid h
  have hA := below_one w (.cells #[.pointer (some ⟨b, 0, none⟩)] 147)
  have hx0 := Blk.made w 147 #[.pointer (some ⟨b, 0, none⟩)]
  go_enter Tryz.func98, Tryz.ntmps98
  go_upto_region 1 with fail
  have hs1 : (w.alloc (.cells #[.pointer (some ⟨b, 0, none⟩)] 147)).heap.size = w.heap.size + 1 := by simp
  have hy0 := Blk.made (w.alloc (.cells #[.pointer (some ⟨b, 0, none⟩)] 147)) 23 #[.pointer (some ⟨p, 0, none⟩)]
  rw [hs1] at hy0
  have hx1 := hx0.alloc (.cells #[.pointer (some ⟨p, 0, none⟩)] 23)
  have hA2 := hA.alloc hA.size (.cells #[.pointer (some ⟨p, 0, none⟩)] 23)
  generalize (w.alloc (.cells #[.pointer (some ⟨b, 0, none⟩)] 147)).alloc (.cells #[.pointer (some ⟨p, 0, none⟩)] 23) = W1 at *
  have P1 := Lib.hid (P0.out.below hA2)
  have B1 := Lib.hid (B0.out.below hA2)
  have d0 : W1.cell? ⟨w.heap.size, 0, none⟩ = some (.pointer (some ⟨b, 0, none⟩)) := hx1.at_ 0
  have d1 : W1.cell? ⟨w.heap.size + 1, 0, none⟩ = some (.pointer (some ⟨p, 0, none⟩)) := hy0.at_ 0
  have lx := Lib.hid (And.intro hx1.lt hy0.lt)
  have HA := Lib.hid hA2
  have hc0 := lline_any B1.out
  rw [hln] at hc0
  have HC0 := Lib.hid hc0
  have N0 := Lib.hid (B0.out.ne P0.out)
  have L0 := Lib.hid (show b < w.heap.size ∧ m < w.heap.size ∧ g < w.heap.size from ⟨B0.out.blk.lt, P0.out.mem.blk.lt, P0.out.mem.row.lt⟩)
  have O1 := Lib.hid (ho.below hA2)
  have LQ := Lib.hid ho.blk.lt
  clear ho
  clear hc0 hx1 hy0 hx0 hA hA2 hs1 hp h
  generalize hz : w.heap.size = z at *
  have HZ := Lib.hid hz
  clear hz
  go_wp2_with fail
  (with_reducible refine HC0.out.mono ?_)
  rintro e wx ⟨rfl, rfl⟩
  clear HC0
  go_upto_region 3 with fail
  have P2 := Lib.hid (P1.out.drewN 1)
  have B2 := Lib.hid B1.out.drew
  have HA2 := Lib.hid (below_drew HA.out)
  have y0 : W1.drew.cell? ⟨z, 0, none⟩ = some (.pointer (some ⟨b, 0, none⟩)) := d0
  have y1 : W1.drew.cell? ⟨z + 1, 0, none⟩ = some (.pointer (some ⟨p, 0, none⟩)) := d1
  have O2 := Lib.hid O1.out.drew
  go_region_held3 (fun w' => w'.cell? ⟨z, 0, none⟩ = some (.pointer (some ⟨b, 0, none⟩)) ∧ w'.cell? ⟨z + 1, 0, none⟩ = some (.pointer (some ⟨p, 0, none⟩))) ((first | exact ⟨a0, a1⟩ | exact ⟨y0, y1⟩ | go_keep))
    ((go_at_call 68
      refine (run_pusher_on_end P2.out B2.out (by decide) O2.out _ HK.out HDN.out).mono ?_
      rintro e w3 ⟨rfl, hp3, hb3, hf3⟩
      have n0 : z ∉ [m, g, b, q] := by simp only [List.mem_cons, List.not_mem_nil, or_false]; have := L0.out; have := LQ.out; omega
      have n1 : z + 1 ∉ [m, g, b, q] := by simp only [List.mem_cons, List.not_mem_nil, or_false]; have := L0.out; have := LQ.out; omega
      have a0 : w3.cell? ⟨z, 0, none⟩ = some (.pointer (some ⟨b, 0, none⟩)) := by rw [fr_cell hf3 lx.out.1 n0]; exact y0
      have a1 : w3.cell? ⟨z + 1, 0, none⟩ = some (.pointer (some ⟨p, 0, none⟩)) := by rw [fr_cell hf3 lx.out.2 n1]; exact y1
      have P3 := Lib.hid hp3
      have B3 := Lib.hid hb3
      have F3 := Lib.hid ((Fr.old (S := [m, g, b, q]) (show Below w.heap.size w W1.drew from HZ.out.symm ▸ HA2.out)).trans hf3)
      clear hp3 hb3 hf3 n0 n1))
  have HC := Lib.hid hc
  have hcb : ((pushS s x).2.2.cd == 3) = true := by simpa using hc
  go_wp2_with fail
  (with_reducible refine (lend_any B3.out 3 0).mono ?_)
  rintro e w4 ⟨rfl, hb4, hf4⟩
  have P4 := Lib.hid (P3.out.lown B3.out hf4)
  have B4 := Lib.hid hb4
  have F4 := Lib.hid (F3.out.trans (hf4.mono (by simp)))
  clear hb4 hf4 P3 B3 F3
  go_wp2
  go_ret
  exact ⟨rfl, P4.out, B4.out, F4.out⟩
set_option maxRecDepth 100000 in
set_option maxHeartbeats 4000000 in
theorem lvpusher_1d (hp : PE w p m k g cap s t d hd rv ev) (hl : LayHd hd c) (hin : CfgIn c) {q : Nat} (h : LB w b 151 (.iface 163 (.pointer (some ⟨q, 0, none⟩)) :: [.int .i64 f.fa, .int .i64 f.fb, .int .i64 f.fd]) f 0 0) (hln : f.ln = 1) (ho : OB w q 168 [.int .i64 x.fa] x 0 0) (hk : PushOk x) (hdn : (pushS s x).2.2.dn = true) (hc : ¬ (pushS s x).2.2.cd = 3) :
    Calls Tryz.prog 98 #[.pointer (some ⟨b, 0, none⟩), .pointer (some ⟨p, 0, none⟩)] w (VNo w p m k g cap (pushS s x).1 t d hd rv ev b 151 [.int .i64 f.fa, .int .i64 f.fb, .int .i64 f.fd] { f with ln := 2 } .none [m, g, b, q]) := by
  have hmf : ∀ (fn : Fn) (first cap : Array Value) (w : World), (Instr.makeFunc fn first cap).run Tryz.prog w = .ok (.func fn first cap) w := fun _ _ _ _ => rfl
  have HDN := Lib.hid hdn
  have HK := Lib.hid hk
  clear hdn hk
  have P0 := Lib.hid hp
  have B0 := Lib.hid h
  have hA := below_one w (.cells #[.pointer (some ⟨b, 0, none⟩)] 147)
  have hx0 := Blk.made w 147 #[.pointer (some ⟨b, 0, none⟩)]
  go_enter Tryz.func98, Tryz.ntmps98
  go_upto_region 1 with fail
  have hs1 : (w.alloc (.cells #[.pointer (some ⟨b, 0, none⟩)] 147)).heap.size = w.heap.size + 1 := by simp
  have hy0 := Blk.made (w.alloc (.cells #[.pointer (some ⟨b, 0, none⟩)] 147)) 23 #[.pointer (some ⟨p, 0, none⟩)]
  rw [hs1] at hy0
  have hx1 := hx0.alloc (.cells #[.pointer (some ⟨p, 0, none⟩)] 23)
  have hA2 := hA.alloc hA.size (.cells #[.pointer (some ⟨p, 0, none⟩)] 23)
  generalize (w.alloc (.cells #[.pointer (some ⟨b, 0, none⟩)] 147)).alloc (.cells #[.pointer (some ⟨p, 0, none⟩)] 23) = W1 at *
  have P1 := Lib.hid (P0.out.below hA2)
  have B1 := Lib.hid (B0.out.below hA2)
  have d0 : W1.cell? ⟨w.heap.size, 0, none⟩ = some (.pointer (some ⟨b, 0, none⟩)) := hx1.at_ 0
  have d1 : W1.cell? ⟨w.heap.size + 1, 0, none⟩ = some (.pointer (some ⟨p, 0, none⟩)) := hy0.at_ 0
  have lx := Lib.hid (And.intro hx1.lt hy0.lt)
  have HA := Lib.hid hA2
  have hc0 := lline_any B1.out
  rw [hln] at hc0
  have HC0 := Lib.hid hc0
  have N0 := Lib.hid (B0.out.ne P0.out)
  have L0 := Lib.hid (show b < w.heap.size ∧ m < w.heap.size ∧ g < w.heap.size from ⟨B0.out.blk.lt, P0.out.mem.blk.lt, P0.out.mem.row.lt⟩)
  have O1 := Lib.hid (ho.below hA2)
  have LQ := Lib.hid ho.blk.lt
  clear ho
  clear hc0 hx1 hy0 hx0 hA hA2 hs1 hp h
  generalize hz : w.heap.size = z at *
  have HZ := Lib.hid hz
  clear hz
  go_wp2_with fail
  (with_reducible refine HC0.out.mono ?_)
  rintro e wx ⟨rfl, rfl⟩
  clear HC0
  go_upto_region 3 with fail
  have P2 := Lib.hid (P1.out.drewN 1)
  have B2 := Lib.hid B1.out.drew
  have HA2 := Lib.hid (below_drew HA.out)
  have y0 : W1.drew.cell? ⟨z, 0, none⟩ = some (.pointer (some ⟨b, 0, none⟩)) := d0
  have y1 : W1.drew.cell? ⟨z + 1, 0, none⟩ = some (.pointer (some ⟨p, 0, none⟩)) := d1
  have O2 := Lib.hid O1.out.drew
  go_region_held3 (fun w' => w'.cell? ⟨z, 0, none⟩ = some (.pointer (some ⟨b, 0, none⟩)) ∧ w'.cell? ⟨z + 1, 0, none⟩ = some (.pointer (some ⟨p, 0, none⟩))) ((first | exact ⟨a0, a1⟩ | exact ⟨y0, y1⟩ | go_keep))
    ((go_at_call 68
      refine (run_pusher_on_end P2.out B2.out (by decide) O2.out _ HK.out HDN.out).mono ?_
      rintro e w3 ⟨rfl, hp3, hb3, hf3⟩
      have n0 : z ∉ [m, g, b, q] := by simp only [List.mem_cons, List.not_mem_nil, or_false]; have := L0.out; have := LQ.out; omega
      have n1 : z + 1 ∉ [m, g, b, q] := by simp only [List.mem_cons, List.not_mem_nil, or_false]; have := L0.out; have := LQ.out; omega
      have a0 : w3.cell? ⟨z, 0, none⟩ = some (.pointer (some ⟨b, 0, none⟩)) := by rw [fr_cell hf3 lx.out.1 n0]; exact y0
      have a1 : w3.cell? ⟨z + 1, 0, none⟩ = some (.pointer (some ⟨p, 0, none⟩)) := by rw [fr_cell hf3 lx.out.2 n1]; exact y1
      have P3 := Lib.hid hp3
      have B3 := Lib.hid hb3
      have F3 := Lib.hid ((Fr.old (S := [m, g, b, q]) (show Below w.heap.size w W1.drew from HZ.out.symm ▸ HA2.out)).trans hf3)
      clear hp3 hb3 hf3 n0 n1))
  have HC := Lib.hid hc
  have hcb : ((pushS s x).2.2.cd == 3) = false := by simpa using hc
  go_wp2_with fail
  (with_reducible refine (lnext_any B3.out 2).mono ?_)
  rintro e w4 ⟨rfl, hb4, hf4⟩
  have P4 := Lib.hid (P3.out.lown B3.out hf4)
  have B4 := Lib.hid hb4
  have F4 := Lib.hid (F3.out.trans (hf4.mono (by simp)))
  clear hb4 hf4 P3 B3 F3
  go_wp2
  go_ret
  exact ⟨rfl, P4.out, B4.out, F4.out⟩
set_option maxRecDepth 100000 in
set_option maxHeartbeats 4000000 in
theorem lvpusher_2 (hp : PE w p m k g cap s t d hd rv ev) (hl : LayHd hd c) (hin : CfgIn c) (h : LB w b 151 (.nilIface :: [.int .i64 f.fa, .int .i64 f.fb, .int .i64 f.fd]) f 0 0) (hln : f.ln = 2) (hk : SetOk (fraS (rBitmap c f.fa) f.fb)) (hdn : (setS s (fraS (rBitmap c f.fa) f.fb)).2.2.dn = true) :
    Calls Tryz.prog 98 #[.pointer (some ⟨b, 0, none⟩), .pointer (some ⟨p, 0, none⟩)] w (VNo w p m k g cap (setS s (fraS (rBitmap c f.fa) f.fb)).1 t d hd rv ev b 151 [.int .i64 f.fa, .int .i64 f.fb, .int .i64 f.fd] f ⟨true, 0, 0⟩ [m, g, b]) := by
  have hmf : ∀ (fn : Fn) (first cap : Array Value) (w : World), (Instr.makeFunc fn first cap).run Tryz.prog w = .ok (.func fn first cap) w := fun _ _ _ _ => rfl
  have HDN := Lib.hid hdn
  have HK := Lib.hid hk
  clear hdn hk
  have P0 := Lib.hid hp
  have B0 := Lib.hid h
  have hA := below_one w (.cells #[.pointer (some ⟨b, 0, none⟩)] 147)
  have hx0 := Blk.made w 147 #[.pointer (some ⟨b, 0, none⟩)]
  go_enter Tryz.func98, Tryz.ntmps98
  go_upto_region 1 with fail
  have hs1 : (w.alloc (.cells #[.pointer (some ⟨b, 0, none⟩)] 147)).heap.size = w.heap.size + 1 := by simp
  have hy0 := Blk.made (w.alloc (.cells #[.pointer (some ⟨b, 0, none⟩)] 147)) 23 #[.pointer (some ⟨p, 0, none⟩)]
  rw [hs1] at hy0
  have hx1 := hx0.alloc (.cells #[.pointer (some ⟨p, 0, none⟩)] 23)
  have hA2 := hA.alloc hA.size (.cells #[.pointer (some ⟨p, 0, none⟩)] 23)
  generalize (w.alloc (.cells #[.pointer (some ⟨b, 0, none⟩)] 147)).alloc (.cells #[.pointer (some ⟨p, 0, none⟩)] 23) = W1 at *
  have P1 := Lib.hid (P0.out.below hA2)
  have B1 := Lib.hid (B0.out.below hA2)
  have d0 : W1.cell? ⟨w.heap.size, 0, none⟩ = some (.pointer (some ⟨b, 0, none⟩)) := hx1.at_ 0
  have d1 : W1.cell? ⟨w.heap.size + 1, 0, none⟩ = some (.pointer (some ⟨p, 0, none⟩)) := hy0.at_ 0
  have lx := Lib.hid (And.intro hx1.lt hy0.lt)
  have HA := Lib.hid hA2
  have hc0 := lline_any B1.out
  rw [hln] at hc0
  have HC0 := Lib.hid hc0
  have N0 := Lib.hid (B0.out.ne P0.out)
  have L0 := Lib.hid (show b < w.heap.size ∧ m < w.heap.size ∧ g < w.heap.size from ⟨B0.out.blk.lt, P0.out.mem.blk.lt, P0.out.mem.row.lt⟩)
  clear hc0 hx1 hy0 hx0 hA hA2 hs1 hp h
  generalize hz : w.heap.size = z at *
  have HZ := Lib.hid hz
  clear hz
  go_wp2_with fail
  (with_reducible refine HC0.out.mono ?_)
  rintro e wx ⟨rfl, rfl⟩
  clear HC0
  go_upto_region 10 with fail
  have P2 := Lib.hid (P1.out.drewN 1)
  have B2 := Lib.hid B1.out.drew
  have HA2 := Lib.hid (below_drew HA.out)
  have y0 : W1.drew.cell? ⟨z, 0, none⟩ = some (.pointer (some ⟨b, 0, none⟩)) := d0
  have y1 : W1.drew.cell? ⟨z + 1, 0, none⟩ = some (.pointer (some ⟨p, 0, none⟩)) := d1
  go_region_held3 (fun w' => w'.cell? ⟨z, 0, none⟩ = some (.pointer (some ⟨b, 0, none⟩)) ∧ w'.cell? ⟨z + 1, 0, none⟩ = some (.pointer (some ⟨p, 0, none⟩))) ((first | exact ⟨a0, a1⟩ | exact ⟨y0, y1⟩ | go_keep))
    ((go_at_call 68
      refine (run_setter_first_end P2.out B2.out (by decide) (enters_of Tryz.func102 (by kernel_rfl) rfl) (lvset_fn P2.out hl hin B2.out.blk y0 y1 lx.out.1 lx.out.2 rfl rfl) HK.out HDN.out).mono ?_
      rintro e w3 ⟨rfl, hp3, hb3, hf3⟩
      have n0 : z ∉ [m, g, b] := by simp only [List.mem_cons, List.not_mem_nil, or_false]; have := L0.out; omega
      have n1 : z + 1 ∉ [m, g, b] := by simp only [List.mem_cons, List.not_mem_nil, or_false]; have := L0.out; omega
      have a0 : w3.cell? ⟨z, 0, none⟩ = some (.pointer (some ⟨b, 0, none⟩)) := by rw [fr_cell hf3 lx.out.1 n0]; exact y0
      have a1 : w3.cell? ⟨z + 1, 0, none⟩ = some (.pointer (some ⟨p, 0, none⟩)) := by rw [fr_cell hf3 lx.out.2 n1]; exact y1
      have P3 := Lib.hid hp3
      have B3 := Lib.hid hb3
      have F3 := Lib.hid ((Fr.old (S := [m, g, b]) (show Below w.heap.size w W1.drew from HZ.out.symm ▸ HA2.out)).trans hf3)
      clear hp3 hb3 hf3 n0 n1))
  go_wp2_with fail
  (with_reducible refine (lend_any B3.out 0 0).mono ?_)
  rintro e w4 ⟨rfl, hb4, hf4⟩
  have P4 := Lib.hid (P3.out.lown B3.out hf4)
  have B4 := Lib.hid hb4
  have F4 := Lib.hid (F3.out.trans (hf4.mono (by simp)))
  clear hb4 hf4 P3 B3 F3
  go_wp2
  go_ret
  exact ⟨rfl, P4.out, B4.out, F4.out⟩
end
end Go.Proofs.YtgipddeldddbnaaGreat
