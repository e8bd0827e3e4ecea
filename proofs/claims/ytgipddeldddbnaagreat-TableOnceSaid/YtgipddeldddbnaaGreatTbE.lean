/-
  Package table: the step of Enter.
-/
import Derived.Test.YtgipddeldddbnaaGreatMgBE
import Derived.Test.YtgipddeldddbnaaGreatMgBW
import Derived.Test.YtgipddeldddbnaaGreatMgAT
namespace Go.Proofs.YtgipddeldddbnaaGreat
open Go Go.RowKit Go.Shelf
set_option linter.unusedSimpArgs false
set_option linter.unusedVariables false

abbrev epost (u : Value) (f : Fra) : List Value := [u, .int .i64 f.fb, .int .i64 f.fa, .int .i64 f.ft]
section
variable {w w' : World} {p m k g cap : Nat} {s : St} {t d : Int} {hd : List Value} {rv ev : Value} {q B b : Nat} {f : Fra} {c : Cfg} {es : List Ev} {rs : List Rec} {x : Fra × Option Fra} {i : Option Nat} {u : Value} {ty : TypeId}
theorem V5.fr {S : List Nat} (h : V5 w b x i) (hf : Fr S w w') (h1 : b ∉ S) (h2 : ∀ z, i = some z → z ∉ S) : V5 w' b x i := by
  obtain ⟨f, o⟩ := x
  obtain ⟨u, hi, hb, hk, hl⟩ := h
  refine ⟨u, ?_, hb.fr hf h1, hk, hl⟩
  cases o with
  | none => exact hi
  | some y =>
    obtain ⟨z, rfl, a1, a2, a3, a4⟩ := hi
    exact ⟨z, rfl, a1, a2, a3.fr hf (h2 z rfl), a4⟩
theorem V5.drewN (h : V5 w b x i) (n : Nat) : V5 (w.drewN n) b x i := h.fr (S := []) ((Fr.refl _ _).drewN n) (by simp) (by simp)
theorem V5.blk (h : V5 w b x i) : ∃ cs, Blk w b 151 cs := by
  obtain ⟨u, _, hb, _⟩ := h
  exact ⟨_, hb.blk⟩
theorem V5.inr (h : V5 w b x i) : ∀ z, i = some z → ∃ cs, Blk w z 168 cs := by
  obtain ⟨f, o⟩ := x
  obtain ⟨u, hi, hb, hk, hl⟩ := h
  intro z hz
  cases o with
  | none =>
    rw [hi.2] at hz
    cases hz
  | some y =>
    obtain ⟨z', e, a1, a2, a3, a4⟩ := hi
    rw [e] at hz
    cases hz
    exact ⟨_, a3.blk⟩
/-- What the inner machine's step leaves. -/
def EG (B p m k g cap : Nat) (t d : Int) (hd : List Value) (rv ev : Value) (rs : List Rec) (es : List Ev) (q : Nat) (vs : List Value) (f : Fra) (b : Nat) (i : Option Nat) (y : St × (Fra × Option Fra) × Res) (w w' : World) : Prop :=
  TW B w' p m k g cap y.1 t d hd rv ev rs es ∧ LB w' q 72 vs f 0 0 ∧ Fr (m :: g :: b :: i.toList) w w' ∧ (y.2.2.dn = false → ∃ i', V5 w' b y.2.1 i' ∧ ∀ z, i' = some z → B ≤ z) ∧ Below B w w'
theorem lvin_step {post : List Value} (ht : TW B w p m k g cap s t d hd rv ev rs es) (hc : LayHd hd c) (hin : CfgIn c) (hu : s.U) (hB : B ≤ w.heap.size) (hlo : B ≤ m ∧ B ≤ g) (hb : LB w q 72 (u :: post) f 0 0) (hv : V5 w b x i) (h1 : B ≤ b) (h2 : ∀ z, i = some z → B ≤ z) :
    Calls Tryz.prog 98 #[.pointer (some ⟨b, 0, none⟩), .pointer (some ⟨p, 0, none⟩)] w (InStep q 72 u post f b (lvS c s x).2.2 (EG B p m k g cap t d hd rv ev rs es q (u :: post) f b i (lvS c s x) w)) := by
  obtain ⟨f1, o1⟩ := x
  refine (lvpusher_any ht.e hc hin hu hv).mono ?_
  rintro e w' ⟨rfl, hp, hd1, hd0, hf⟩
  obtain ⟨cb, hbb⟩ := hv.blk
  have hty : ∀ j, j ∈ m :: g :: b :: i.toList → ∃ t cs, Blk w j t cs ∧ t ≠ 48 ∧ t ≠ 51 ∧ t ≠ 3 := by
    intro j hj
    simp only [List.mem_cons, Option.mem_toList] at hj
    rcases hj with rfl | rfl | rfl | hj
    · exact ht.e.mg _ (by simp)
    · exact ht.e.mg _ (by simp)
    · exact ⟨_, _, hbb, by decide, by decide, by decide⟩
    · obtain ⟨cs, hz⟩ := hv.inr j hj
      exact ⟨_, _, hz, by decide, by decide, by decide⟩
  have hne := hb.ne ht.e
  have hq : q ∉ m :: g :: b :: i.toList := by
    simp only [List.mem_cons, Option.mem_toList, not_or]
    refine ⟨hne.2.1, hne.2.2.2, hb.blk.apart hbb (by decide), fun hj => ?_⟩
    obtain ⟨cs, hz⟩ := hv.inr q hj
    exact hb.blk.apart hz (by decide) rfl
  refine ⟨rfl, hb.fr hf hq, fun h => ?_, ⟨hp, ht.v.accs hf (fun j hj => ?_), ht.r.accs hf (fun j hj => ?_)⟩, hb.fr hf hq, hf, fun h => ?_, hf.below hB (fun y hy => ?_)⟩
  · obtain ⟨ps, f', hl, _⟩ := hd1 h
    exact ⟨_, _, _, hl⟩
  · obtain ⟨t, cs, a, b, _⟩ := hty j hj
    exact ⟨t, cs, a, b⟩
  · obtain ⟨t, cs, a, _, b⟩ := hty j hj
    exact ⟨t, cs, a, b⟩
  · obtain ⟨i', hv', hi'⟩ := hd0 h
    refine ⟨i', hv', fun z hz => ?_⟩
    rcases hi' with rfl | hi'
    · exact h2 z hz
    · exact Nat.le_trans hB (hi' z hz)
  · simp only [List.mem_cons, Option.mem_toList] at hy
    rcases hy with rfl | rfl | rfl | hy
    · exact hlo.1
    · exact hlo.2
    · exact h1
    · exact h2 y hy
set_option maxRecDepth 100000 in
set_option maxHeartbeats 2000000 in
/-- What line 4 begins. -/
theorem enfn_any {z : Nat} (hb : LB w q 72 (epost u f) f 0 0) (hz : w.cell? ⟨z, 0, none⟩ = some (.pointer (some ⟨q, 0, none⟩))) :
    Calls Tryz.prog 69 #[.pointer (some ⟨z, 0, none⟩)] w (VNew V5 147 (fraLP f.fa f.ft f.fb) w) := by
  have d0 : w.drew.cell? ⟨z, 0, none⟩ = some (.pointer (some ⟨q, 0, none⟩)) := hz
  have d4 : w.drew.cell? ⟨q, 4, none⟩ = some (.int .i64 f.fb) := by rw [hb.drew.blk.at_]; rfl
  have d5 : w.drew.cell? ⟨q, 5, none⟩ = some (.int .i64 f.fa) := by rw [hb.drew.blk.at_]; rfl
  have d6 : w.drew.cell? ⟨q, 6, none⟩ = some (.int .i64 f.ft) := by rw [hb.drew.blk.at_]; rfl
  clear hb hz
  go_enter Tryz.func69, Tryz.ntmps69
  go_upto_region 1 with fail
  go_still_tail 13, (by kernel_rfl)
  go_wp2_with fail
  (with_reducible refine (lvPush_any f.fa f.ft f.fb _).mono ?_)
  rintro e w1 ⟨b1, rfl, hv, hbl, hb⟩
  go_wp2
  go_ret
  exact ⟨b1, rfl, hv, hbl, (below_drew (Below.refl _ _)).trans hb⟩
/-- What a step of Enter gives. -/
def EStep (B : Nat) (w : World) (p m k g cap : Nat) (s' : St) (t d : Int) (hd : List Value) (rv ev : Value) (rs : List Rec) (es : List Ev) (q : Nat) (u : Value) (f' : Fra) (r : Res) (e : Ending) (w' : World) : Prop :=
  e = .returned (.bool r.dn) ∧ TW B w' p m k g cap s' t d hd rv ev rs es ∧ LB w' q 72 (epost u f') (if r.dn then { f' with ln := 0 } else f') r.cd r.vl ∧ Below B w w'

set_option maxRecDepth 100000 in
set_option maxHeartbeats 2000000 in
theorem entrant_miss (hp : TW B w p m k g cap s t d hd rv ev rs es) (hl : LayHd hd c) (hin : CfgIn c) (h : LB w q 72 (epost .nilIface f) f 0 0) (hB : B ≤ w.heap.size) (hlo : B ≤ m ∧ B ≤ g ∧ B ≤ q) (hln : f.ln = 1) (ht : isT c f.fb = false) :
    Calls Tryz.prog 59 #[.pointer (some ⟨q, 0, none⟩), .pointer (some ⟨p, 0, none⟩)] w (EStep B w p m k g cap (s) t d hd rv ev rs es q .nilIface (f) ⟨true, 4, 0⟩) := by
  have hx0 := Blk.made w 63 #[.pointer (some ⟨q, 0, none⟩)]
  have hA := below_one w (.cells #[.pointer (some ⟨q, 0, none⟩)] 63)
  have hzl := hx0.lt
  have HLO := Lib.hid (show B ≤ w.heap.size ∧ B ≤ m ∧ B ≤ g ∧ B ≤ q ∧ w.heap.size ≠ q ∧ w.heap.size ≠ m ∧ w.heap.size ≠ g from ⟨hB, hlo.1, hlo.2.1, hlo.2.2, by have := h.blk.lt; omega, by have := hp.e.mem.blk.lt; omega, by have := hp.e.mem.row.lt; omega⟩)
  have T0 := Lib.hid (hp.below hA)
  have B0 := Lib.hid (h.below hA)
  have F0 := Lib.hid (hA.mono hB)
  have HL := Lib.hid hl
  clear hA hB hlo
  go_enter Tryz.func59, Tryz.ntmps59
  go_upto_region 1 with fail
  generalize w.alloc (.cells #[.pointer (some ⟨q, 0, none⟩)] 63) = w0 at *
  have Z0 := Lib.hid hx0
  have c0 : w0.cell? ⟨w.heap.size, 0, none⟩ = some (.pointer (some ⟨q, 0, none⟩)) := hx0.at_ 0
  have hc0 := lline_any B0.out
  rw [hln] at hc0
  have HC0 := Lib.hid hc0
  clear hp h hl hc0 hx0 hzl
  generalize hwz : w.heap.size = z at *
  have HSZ := Lib.hid (show B ≤ w.heap.size by rw [hwz]; exact HLO.out.1)
  clear hwz
  go_wp2_with fail
  (with_reducible refine HC0.out.mono ?_)
  rintro e wx ⟨rfl, rfl⟩
  clear HC0
  have HM := missing_any (q := q) (o := 4) (tk := f.fb) T0.out.e HL.out (by rw [B0.out.blk.at_]; rfl)
  rw [ht] at HM
  have HM := Lib.hid HM
  clear ht
  go_wp2_with fail
  (with_reducible refine HM.out.mono ?_)
  rintro e wz ⟨rfl, rfl⟩
  go_wp2_with fail
  (with_reducible refine (lend_any B0.out 4 0).mono ?_)
  rintro e w1 ⟨rfl, hb, hf⟩
  have T1 := Lib.hid (T0.out.own B0.out hf (by decide) (by decide) (by decide))
  have B1 := Lib.hid hb
  have F1 := Lib.hid (F0.out.trans (hf.below (Nat.le_trans HSZ.out F0.out.size) (fun y hy => by have := HLO.out; simp only [List.mem_cons, List.not_mem_nil, or_false] at hy; omega)))
  clear hb hf
  go_wp2
  go_ret
  exact ⟨rfl, T1.out, B1.out, F1.out⟩
set_option maxRecDepth 100000 in
set_option maxHeartbeats 2000000 in
theorem entrant_1 (hp : TW B w p m k g cap s t d hd rv ev rs es) (hl : LayHd hd c) (hin : CfgIn c) (h : LB w q 72 (epost .nilIface f) f 0 0) (hB : B ≤ w.heap.size) (hlo : B ≤ m ∧ B ≤ g ∧ B ≤ q) (hln : f.ln = 1) (ht : isT c f.fb = true) :
    Calls Tryz.prog 59 #[.pointer (some ⟨q, 0, none⟩), .pointer (some ⟨p, 0, none⟩)] w (EStep B w p m k g cap (s.go 2 (rTask c f.fb 4) (fun _ => IntKind.u64.wrap t)) t d hd rv ev rs es q .nilIface ({ f with ln := 2 }) .none) := by
  have hx0 := Blk.made w 63 #[.pointer (some ⟨q, 0, none⟩)]
  have hA := below_one w (.cells #[.pointer (some ⟨q, 0, none⟩)] 63)
  have hzl := hx0.lt
  have HLO := Lib.hid (show B ≤ w.heap.size ∧ B ≤ m ∧ B ≤ g ∧ B ≤ q ∧ w.heap.size ≠ q ∧ w.heap.size ≠ m ∧ w.heap.size ≠ g from ⟨hB, hlo.1, hlo.2.1, hlo.2.2, by have := h.blk.lt; omega, by have := hp.e.mem.blk.lt; omega, by have := hp.e.mem.row.lt; omega⟩)
  have T0 := Lib.hid (hp.below hA)
  have B0 := Lib.hid (h.below hA)
  have F0 := Lib.hid (hA.mono hB)
  have HL := Lib.hid hl
  clear hA hB hlo
  go_enter Tryz.func59, Tryz.ntmps59
  go_upto_region 1 with fail
  generalize w.alloc (.cells #[.pointer (some ⟨q, 0, none⟩)] 63) = w0 at *
  have Z0 := Lib.hid hx0
  have c0 : w0.cell? ⟨w.heap.size, 0, none⟩ = some (.pointer (some ⟨q, 0, none⟩)) := hx0.at_ 0
  have hc0 := lline_any B0.out
  rw [hln] at hc0
  have HC0 := Lib.hid hc0
  clear hp h hl hc0 hx0 hzl
  generalize hwz : w.heap.size = z at *
  have HSZ := Lib.hid (show B ≤ w.heap.size by rw [hwz]; exact HLO.out.1)
  clear hwz
  go_wp2_with fail
  (with_reducible refine HC0.out.mono ?_)
  rintro e wx ⟨rfl, rfl⟩
  clear HC0
  have HM := missing_any (q := q) (o := 4) (tk := f.fb) T0.out.e HL.out (by rw [B0.out.blk.at_]; rfl)
  rw [ht] at HM
  have HM := Lib.hid HM
  have N4 := Lib.hid (B0.out.ne T0.out.e)
  clear ht
  go_wp2_with fail
  (with_reducible refine HM.out.mono ?_)
  rintro e wz ⟨rfl, rfl⟩
  go_wp2_with fail
  (with_reducible refine (stamp_any (o := 4) (tk := f.fb) T0.out.e HL.out hin B0.out.blk N4.out.2.1 N4.out.2.2.2 rfl).mono ?_)
  rintro e w1 ⟨rfl, hm, hf⟩
  have T1 := Lib.hid (T0.out.acc hm hf)
  have B1 := Lib.hid (B0.out.acc T0.out.e hf)
  have F1 := Lib.hid (F0.out.trans (hf.below (Nat.le_trans HSZ.out F0.out.size) (fun y hy => by have := HLO.out; simp only [List.mem_cons, List.not_mem_nil, or_false] at hy; rcases hy with rfl | rfl <;> omega)))
  have Z1 := Lib.hid (Z0.out.of_same (hf.block z Z0.out.lt (by have := HLO.out; simp only [List.mem_cons, List.not_mem_nil, or_false, not_or]; omega)))
  have c01 : w1.cell? ⟨z, 0, none⟩ = some (.pointer (some ⟨q, 0, none⟩)) := Z1.out.at_ 0
  clear hm hf
  go_wp2_with fail
  (with_reducible refine (lnext_any B1.out 2).mono ?_)
  rintro e w2 ⟨rfl, hb, hf⟩
  have T2 := Lib.hid (T1.out.own B1.out hf (by decide) (by decide) (by decide))
  have B2 := Lib.hid hb
  have F2 := Lib.hid (F1.out.trans (hf.below (Nat.le_trans HSZ.out F1.out.size) (fun y hy => by have := HLO.out; simp only [List.mem_cons, List.not_mem_nil, or_false] at hy; omega)))
  clear hb hf
  go_wp2
  go_ret
  exact ⟨rfl, T2.out, B2.out, F2.out⟩
set_option maxRecDepth 100000 in
set_option maxHeartbeats 2000000 in
theorem entrant_2 (hp : TW B w p m k g cap s t d hd rv ev rs es) (hl : LayHd hd c) (hin : CfgIn c) (h : LB w q 72 (epost .nilIface f) f 0 0) (hB : B ≤ w.heap.size) (hlo : B ≤ m ∧ B ≤ g ∧ B ≤ q) (hln : f.ln = 2) :
    Calls Tryz.prog 59 #[.pointer (some ⟨q, 0, none⟩), .pointer (some ⟨p, 0, none⟩)] w (EStep B w p m k g cap (s.go 2 (rTask c f.fb 0) (fun _ => 1)) t d hd rv ev rs es q .nilIface ({ f with ln := 3 }) .none) := by
  have hx0 := Blk.made w 63 #[.pointer (some ⟨q, 0, none⟩)]
  have hA := below_one w (.cells #[.pointer (some ⟨q, 0, none⟩)] 63)
  have hzl := hx0.lt
  have HLO := Lib.hid (show B ≤ w.heap.size ∧ B ≤ m ∧ B ≤ g ∧ B ≤ q ∧ w.heap.size ≠ q ∧ w.heap.size ≠ m ∧ w.heap.size ≠ g from ⟨hB, hlo.1, hlo.2.1, hlo.2.2, by have := h.blk.lt; omega, by have := hp.e.mem.blk.lt; omega, by have := hp.e.mem.row.lt; omega⟩)
  have T0 := Lib.hid (hp.below hA)
  have B0 := Lib.hid (h.below hA)
  have F0 := Lib.hid (hA.mono hB)
  have HL := Lib.hid hl
  clear hA hB hlo
  go_enter Tryz.func59, Tryz.ntmps59
  go_upto_region 1 with fail
  generalize w.alloc (.cells #[.pointer (some ⟨q, 0, none⟩)] 63) = w0 at *
  have Z0 := Lib.hid hx0
  have c0 : w0.cell? ⟨w.heap.size, 0, none⟩ = some (.pointer (some ⟨q, 0, none⟩)) := hx0.at_ 0
  have hc0 := lline_any B0.out
  rw [hln] at hc0
  have HC0 := Lib.hid hc0
  clear hp h hl hc0 hx0 hzl
  generalize hwz : w.heap.size = z at *
  have HSZ := Lib.hid (show B ≤ w.heap.size by rw [hwz]; exact HLO.out.1)
  clear hwz
  go_wp2_with fail
  (with_reducible refine HC0.out.mono ?_)
  rintro e wx ⟨rfl, rfl⟩
  clear HC0
  have N4 := Lib.hid (B0.out.ne T0.out.e)
  go_wp2_with fail
  (with_reducible refine (mkready_any (o := 4) (tk := f.fb) T0.out.e HL.out hin B0.out.blk N4.out.2.1 N4.out.2.2.2 rfl).mono ?_)
  rintro e w1 ⟨rfl, hm, hf⟩
  have T1 := Lib.hid (T0.out.acc hm hf)
  have B1 := Lib.hid (B0.out.acc T0.out.e hf)
  have F1 := Lib.hid (F0.out.trans (hf.below (Nat.le_trans HSZ.out F0.out.size) (fun y hy => by have := HLO.out; simp only [List.mem_cons, List.not_mem_nil, or_false] at hy; rcases hy with rfl | rfl <;> omega)))
  have Z1 := Lib.hid (Z0.out.of_same (hf.block z Z0.out.lt (by have := HLO.out; simp only [List.mem_cons, List.not_mem_nil, or_false, not_or]; omega)))
  have c01 : w1.cell? ⟨z, 0, none⟩ = some (.pointer (some ⟨q, 0, none⟩)) := Z1.out.at_ 0
  clear hm hf
  go_wp2_with fail
  (with_reducible refine (lnext_any B1.out 3).mono ?_)
  rintro e w2 ⟨rfl, hb, hf⟩
  have T2 := Lib.hid (T1.out.own B1.out hf (by decide) (by decide) (by decide))
  have B2 := Lib.hid hb
  have F2 := Lib.hid (F1.out.trans (hf.below (Nat.le_trans HSZ.out F1.out.size) (fun y hy => by have := HLO.out; simp only [List.mem_cons, List.not_mem_nil, or_false] at hy; omega)))
  clear hb hf
  go_wp2
  go_ret
  exact ⟨rfl, T2.out, B2.out, F2.out⟩
set_option maxRecDepth 100000 in
set_option maxHeartbeats 2000000 in
theorem entrant_3 (hp : TW B w p m k g cap s t d hd rv ev rs es) (hl : LayHd hd c) (hin : CfgIn c) (h : LB w q 72 (epost .nilIface f) f 0 0) (hB : B ≤ w.heap.size) (hlo : B ≤ m ∧ B ≤ g ∧ B ≤ q) (hln : f.ln = 3) :
    Calls Tryz.prog 59 #[.pointer (some ⟨q, 0, none⟩), .pointer (some ⟨p, 0, none⟩)] w (EStep B w p m k g cap (s.go 1 (rTask c f.fb 1) id) t d hd rv ev rs es q .nilIface ({ f with ft := IntKind.i64.wrap (s.old (rTask c f.fb 1)), ln := 4 }) .none) := by
  have hx0 := Blk.made w 63 #[.pointer (some ⟨q, 0, none⟩)]
  have hA := below_one w (.cells #[.pointer (some ⟨q, 0, none⟩)] 63)
  have hzl := hx0.lt
  have HLO := Lib.hid (show B ≤ w.heap.size ∧ B ≤ m ∧ B ≤ g ∧ B ≤ q ∧ w.heap.size ≠ q ∧ w.heap.size ≠ m ∧ w.heap.size ≠ g from ⟨hB, hlo.1, hlo.2.1, hlo.2.2, by have := h.blk.lt; omega, by have := hp.e.mem.blk.lt; omega, by have := hp.e.mem.row.lt; omega⟩)
  have T0 := Lib.hid (hp.below hA)
  have B0 := Lib.hid (h.below hA)
  have F0 := Lib.hid (hA.mono hB)
  have HL := Lib.hid hl
  clear hA hB hlo
  go_enter Tryz.func59, Tryz.ntmps59
  go_upto_region 1 with fail
  generalize w.alloc (.cells #[.pointer (some ⟨q, 0, none⟩)] 63) = w0 at *
  have Z0 := Lib.hid hx0
  have c0 : w0.cell? ⟨w.heap.size, 0, none⟩ = some (.pointer (some ⟨q, 0, none⟩)) := hx0.at_ 0
  have hc0 := lline_any B0.out
  rw [hln] at hc0
  have HC0 := Lib.hid hc0
  clear hp h hl hc0 hx0 hzl
  generalize hwz : w.heap.size = z at *
  have HSZ := Lib.hid (show B ≤ w.heap.size by rw [hwz]; exact HLO.out.1)
  clear hwz
  go_wp2_with fail
  (with_reducible refine HC0.out.mono ?_)
  rintro e wx ⟨rfl, rfl⟩
  clear HC0
  go_upto_region 11 with fail
  have T1 := Lib.hid (show TW B w0.drew p m k g cap s t d hd rv ev rs es from T0.out.below (below_drewN w0 1))
  have B1 := Lib.hid B0.out.drew
  have F1 := Lib.hid (show Below B w w0.drew from below_drew F0.out)
  have Z1 := Lib.hid (show Blk w0.drew z _ _ from Z0.out)
  obtain ⟨d0, d1, d2, d3, d4, d5, d6, d7, d8⟩ := T1.out.e.layS HL.out
  have dx0 : w0.drew.cell? ⟨p, 20, none⟩ = some (.pointer (some ⟨m, 0, none⟩)) := T1.out.e.at20
  have dx1 : w0.drew.cell? ⟨q, 4, none⟩ = some (.int .i64 f.fb) := by rw [B1.out.blk.at_]; rfl
  have dx2 : w0.drew.cell? ⟨z, 0, none⟩ = some (.pointer (some ⟨q, 0, none⟩)) := Z1.out.at_ 0
  go_region_held3 (fun w' => w'.cell? ⟨p, 11, none⟩ = some (.int .i64 4) ∧ w'.cell? ⟨p, 12, none⟩ = some (.int .i64 (4 + c.he)) ∧ w'.cell? ⟨p, 13, none⟩ = some (.int .i64 (4 + c.he + c.cl)) ∧ w'.cell? ⟨p, 14, none⟩ = some (.int .i64 (4 + c.he + c.cl + c.wo)) ∧ w'.cell? ⟨p, 15, none⟩ = some (.int .i64 (rDeques c)) ∧ w'.cell? ⟨p, 16, none⟩ = some (.int .i64 (rDeques c + rAll c)) ∧ w'.cell? ⟨p, 17, none⟩ = some (.int .i64 (rCells c)) ∧ w'.cell? ⟨p, 18, none⟩ = some (.int .i64 c.le) ∧ w'.cell? ⟨p, 19, none⟩ = some (.int .i64 c.de) ∧ w'.cell? ⟨p, 20, none⟩ = some (.pointer (some ⟨m, 0, none⟩)) ∧ w'.cell? ⟨q, 4, none⟩ = some (.int .i64 f.fb) ∧ w'.cell? ⟨z, 0, none⟩ = some (.pointer (some ⟨q, 0, none⟩))) ((first | exact ⟨v0, v1, v2, v3, v4, v5, v6, v7, v8, vx0, vx1, vx2⟩ | exact ⟨y0, y1, y2, y3, y4, y5, y6, y7, y8, yx0, yx1, yx2⟩ | exact ⟨x0, x1, x2, x3, x4, x5, x6, x7, x8, xx0, xx1, xx2⟩ | exact ⟨d0, d1, d2, d3, d4, d5, d6, d7, d8, dx0, dx1, dx2⟩ | go_keep))
    (first
     | (go_at_call 67
        refine (llevel_any (c := c) hin f.fb).mono ?_
        rintro e u2 ⟨rfl, hb⟩
        have T2 := Lib.hid (T1.out.below hb)
        have B2 := Lib.hid (B1.out.below hb)
        have Z2 := Lib.hid (Z1.out.below hb)
        have F2 := Lib.hid (F1.out.trans (hb.mono (Nat.le_trans HSZ.out F1.out.size)))
        obtain ⟨x0, x1, x2, x3, x4, x5, x6, x7, x8⟩ := T2.out.e.layS HL.out
        have xx0 : u2.cell? ⟨p, 20, none⟩ = some (.pointer (some ⟨m, 0, none⟩)) := T2.out.e.at20
        have xx1 : u2.cell? ⟨q, 4, none⟩ = some (.int .i64 f.fb) := by rw [B2.out.blk.at_]; rfl
        have xx2 : u2.cell? ⟨z, 0, none⟩ = some (.pointer (some ⟨q, 0, none⟩)) := Z2.out.at_ 0
        clear hb)
     | (go_at_call 66
        refine (load_any T2.out.e.mem _).mono ?_
        rintro e u3 ⟨rfl, hm, hf⟩
        have T3 := Lib.hid (T2.out.acc hm hf)
        have B3 := Lib.hid (B2.out.acc T2.out.e hf)
        have F3 := Lib.hid (F2.out.trans (hf.below (Nat.le_trans HSZ.out F2.out.size) (fun y hy => by have := HLO.out; simp only [List.mem_cons, List.not_mem_nil, or_false] at hy; rcases hy with rfl | rfl <;> omega)))
        have Z3 := Lib.hid (Z2.out.of_same (hf.block z Z2.out.lt (by have := HLO.out; simp only [List.mem_cons, List.not_mem_nil, or_false, not_or]; omega)))
        obtain ⟨y0, y1, y2, y3, y4, y5, y6, y7, y8⟩ := T3.out.e.layS HL.out
        have yx0 : u3.cell? ⟨p, 20, none⟩ = some (.pointer (some ⟨m, 0, none⟩)) := T3.out.e.at20
        have yx1 : u3.cell? ⟨q, 4, none⟩ = some (.int .i64 f.fb) := by rw [B3.out.blk.at_]; rfl
        have yx2 : u3.cell? ⟨z, 0, none⟩ = some (.pointer (some ⟨q, 0, none⟩)) := Z3.out.at_ 0
        have k6 : u3.cell? ⟨q, 6, none⟩ = some (.int .i64 f.ft) := by rw [B3.out.blk.at_]; rfl
        have l6 := B3.out.free 6
        have hs4 : Fr [q] u3 (u3.setCell ⟨q, 6, none⟩ (.int .i64 (IntKind.i64.wrap (s.old (rTask c f.fb 1))))) := (Fr.refl _ _).setCell (by simp) _
        have T4 := Lib.hid (T3.out.own B3.out hs4 (by decide) (by decide) (by decide))
        have Z4 := Lib.hid (Z3.out.of_same (hs4.block z Z3.out.lt (by have := HLO.out; simp only [List.mem_cons, List.not_mem_nil, or_false]; omega)))
        have hq4 := B3.out.blk.put 6 (.int .i64 (IntKind.i64.wrap (s.old (rTask c f.fb 1))))
        simp only [List.cons_append, List.nil_append, List.setIfInBounds_toArray, List.set_cons_zero, List.set_cons_succ] at hq4
        have B4 := Lib.hid (show LB (u3.setCell ⟨q, 6, none⟩ (.int .i64 (IntKind.i64.wrap (s.old (rTask c f.fb 1))))) q 72 (epost .nilIface { f with ft := IntKind.i64.wrap (s.old (rTask c f.fb 1)) }) { f with ft := IntKind.i64.wrap (s.old (rTask c f.fb 1)) } 0 0 from ⟨hq4, B3.out.t1, B3.out.t2, B3.out.t3, B3.out.t4⟩)
        have F4 := Lib.hid (F3.out.trans (hs4.below (Nat.le_trans HSZ.out F3.out.size) (fun y hy => by have := HLO.out; simp only [List.mem_cons, List.not_mem_nil, or_false] at hy; omega)))
        obtain ⟨v0, v1, v2, v3, v4, v5, v6, v7, v8⟩ := T4.out.e.layS HL.out
        have vx0 : (u3.setCell ⟨q, 6, none⟩ (.int .i64 (IntKind.i64.wrap (s.old (rTask c f.fb 1))))).cell? ⟨p, 20, none⟩ = some (.pointer (some ⟨m, 0, none⟩)) := T4.out.e.at20
        have vx1 : (u3.setCell ⟨q, 6, none⟩ (.int .i64 (IntKind.i64.wrap (s.old (rTask c f.fb 1))))).cell? ⟨q, 4, none⟩ = some (.int .i64 f.fb) := by rw [B4.out.blk.at_]; rfl
        have vx2 : (u3.setCell ⟨q, 6, none⟩ (.int .i64 (IntKind.i64.wrap (s.old (rTask c f.fb 1))))).cell? ⟨z, 0, none⟩ = some (.pointer (some ⟨q, 0, none⟩)) := Z4.out.at_ 0
        clear hm hf hs4 hq4))
  clear d0 d1 d2 d3 d4 d5 d6 d7 d8 dx0 dx1 dx2 x0 x1 x2 x3 x4 x5 x6 x7 x8 xx0 xx1 xx2 y0 y1 y2 y3 y4 y5 y6 y7 y8 yx0 yx1 yx2 v0 v1 v2 v3 v4 v5 v6 v7 v8 vx0 vx1 vx2 k6 l6 T0 B0 F0 Z0 T1 B1 F1 Z1 T2 B2 F2 Z2 T3 B3 F3 Z3
  generalize (u3.setCell ⟨q, 6, none⟩ (.int .i64 (IntKind.i64.wrap (s.old (rTask c f.fb 1))))) = w4 at *
  have c04 : w4.cell? ⟨z, 0, none⟩ = some (.pointer (some ⟨q, 0, none⟩)) := Z4.out.at_ 0
  go_wp2_with fail
  (with_reducible refine (lnext_any B4.out 4).mono ?_)
  rintro e w5 ⟨rfl, hb, hf⟩
  have T5 := Lib.hid (T4.out.own B4.out hf (by decide) (by decide) (by decide))
  have B5 := Lib.hid hb
  have F5 := Lib.hid (F4.out.trans (hf.below (Nat.le_trans HSZ.out F4.out.size) (fun y hy => by have := HLO.out; simp only [List.mem_cons, List.not_mem_nil, or_false] at hy; omega)))
  clear hb hf
  go_wp2
  go_ret
  exact ⟨rfl, T5.out, B5.out, F5.out⟩
/-- What Run gives at line 4. -/
def ERun (B : Nat) (w : World) (p m k g cap : Nat) (t d : Int) (hd : List Value) (rv ev : Value) (rs : List Rec) (es : List Ev) (q : Nat) (f : Fra) (z : Nat) (zc : Array Value) (zt : TypeId) (y : St × (Fra × Option Fra) × Res) (e : Ending) (w' : World) : Prop :=
  TW B w' p m k g cap y.1 t d hd rv ev rs es ∧ Below B w w' ∧ Blk w' z zt zc ∧
  (y.2.2.dn = true → e = .returned (.tuple #[.int .i64 y.2.2.cd, .int .i64 y.2.2.vl, .bool true]) ∧ LB w' q 72 (epost .nilIface f) f 0 0) ∧
  (y.2.2.dn = false → e = .returned (.tuple #[.int .i64 0, .int .i64 0, .bool false]) ∧ ∃ b i, LB w' q 72 (epost (.iface 147 (.pointer (some ⟨b, 0, none⟩))) f) f 0 0 ∧ V5 w' b y.2.1 i ∧ B ≤ b ∧ ∀ z, i = some z → B ≤ z)
theorem erun_of {w0 : World} {z : Nat} {zc : Array Value} {zt : TypeId} {y : St × (Fra × Option Fra) × Res} {e : Ending} (hB : B ≤ w0.heap.size) (hbw : Below B w w0) (hq : B ≤ q) (h1 : B ≤ b) (hz : Blk w0 z zt zc) (ht1 : zt ≠ 72) (ht2 : z ∉ m :: g :: b :: i.toList)
    (h : RunG q y.2.2 (EG B p m k g cap t d hd rv ev rs es q (epost (.iface 147 (.pointer (some ⟨b, 0, none⟩))) f) f b i y w0) e w') : ERun B w p m k g cap t d hd rv ev rs es q f z zc zt y e w' := by
  cases hdn : y.2.2.dn with
  | true =>
    obtain ⟨he, w1, n, ⟨ht, hb, hf, _, hbl⟩, rfl⟩ := h.1 hdn
    have hb2 := hb.drewN n
    have hs : Fr [q] (w1.drewN n) ((w1.drewN n).setCell ⟨q, 3, none⟩ .nilIface) := (Fr.refl _ _).setCell (by simp) _
    have ht2' : TW B (w1.drewN n) p m k g cap y.1 t d hd rv ev rs es := ht.below (below_drewN _ _)
    have hz1 : Blk (w1.drewN n) z zt zc := hz.of_same (hf.block z hz.lt ht2)
    have hqz : q ≠ z := fun e => hb2.blk.apart hz1 (fun e => ht1 e.symm) e
    refine ⟨ht2'.own hb2 hs (by decide) (by decide) (by decide), hbw.trans (Below.trans (b := w1.drewN n) ⟨hbl.os, hbl.tape, hbl.output, hbl.size, hbl.block⟩ (hs.below (Nat.le_trans hB hbl.size) (fun y hy => by simp only [List.mem_cons, List.not_mem_nil, or_false] at hy; omega))), hz1.of_same (hs.block z hz1.lt (by simpa using hqz.symm)), fun _ => ⟨he, hb2.putv' _⟩, fun h => ?_⟩
    rw [hdn] at h
    cases h
  | false =>
    obtain ⟨he, ht, hb, hf, hv, hbl⟩ := h.2 hdn
    obtain ⟨i', hv', hi'⟩ := hv hdn
    refine ⟨ht, hbw.trans hbl, hz.of_same (hf.block z hz.lt ht2), fun h => ?_, fun _ => ⟨he, b, i', hb, hv', h1, hi'⟩⟩
    rw [hdn] at h
    cases h
theorem erun_on {z : Nat} {zc : Array Value} {zt : TypeId} (ht : TW B w p m k g cap s t d hd rv ev rs es) (hc : LayHd hd c) (hin : CfgIn c) (hu : s.U) (hB : B ≤ w.heap.size) (hlo : B ≤ m ∧ B ≤ g ∧ B ≤ q) (hb : LB w q 72 (epost (.iface 147 (.pointer (some ⟨b, 0, none⟩))) f) f 0 0) (hv : V5 w b x i) (h1 : B ≤ b) (h2 : ∀ z, i = some z → B ≤ z) (hz : Blk w z zt zc) (ht1 : zt = 63) (fn : Value) :
    Calls Tryz.prog 68 #[.pointer (some ⟨q, 0, none⟩), .pointer (some ⟨p, 0, none⟩), fn] w (ERun B w p m k g cap t d hd rv ev rs es q f z zc zt (lvS c s x)) := by
  subst ht1
  refine (run_on_gen (pt := 147) (meth_step_lvpusher b) (ahead_step_lvpusher b) (meth_result_lvpusher b) (ahead_result_lvpusher b) (enters_of Tryz.func98 (by kernel_rfl) rfl) hb fn (lvin_step ht hc hin hu hB ⟨hlo.1, hlo.2.1⟩ hb hv h1 h2)).mono ?_
  intro e w' h
  refine erun_of hB (Below.refl _ _) hlo.2.2 h1 hz (by decide) ?_ h
  obtain ⟨cur, hgb, _⟩ := ht.e.mem.row.blk
  obtain ⟨cb, hbb⟩ := hv.blk
  simp only [List.mem_cons, Option.mem_toList, not_or]
  refine ⟨hz.apart ht.e.mem.blk (by decide), hz.apart hgb (by decide), hz.apart hbb (by decide), fun hj => ?_⟩
  obtain ⟨cs, hi⟩ := hv.inr z hj
  exact hz.apart hi (by decide) rfl
end
end Go.Proofs.YtgipddeldddbnaaGreat
