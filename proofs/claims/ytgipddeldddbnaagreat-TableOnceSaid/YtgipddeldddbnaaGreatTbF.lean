/-
  Package table: line 4 of Enter, and its step whole.
-/
import Derived.Test.YtgipddeldddbnaaGreatTbE
import Derived.Test.YtgipddeldddbnaaGreatMgBF
import Derived.Test.YtgipddeldddbnaaGreatMgBG
namespace Go.Proofs.YtgipddeldddbnaaGreat
open Go Go.RowKit Go.Shelf
set_option linter.unusedSimpArgs false
set_option linter.unusedVariables false

section
variable {w w' : World} {p m k g cap : Nat} {s : St} {t d : Int} {hd : List Value} {rv ev : Value} {q B b : Nat} {f : Fra} {c : Cfg} {es : List Ev} {rs : List Rec} {x : Fra × Option Fra} {i : Option Nat} {u : Value} {ty : TypeId}
theorem V5.below (h : V5 w b x i) (hb : Below w.heap.size w w') : V5 w' b x i := h.fr (S := []) (Fr.old hb) (by simp) (by simp)
theorem erun_first {z : Nat} {zc : Array Value} (ht : TW B w p m k g cap s t d hd rv ev rs es) (hc : LayHd hd c) (hin : CfgIn c) (hu : s.U) (hB : B ≤ w.heap.size) (hlo : B ≤ m ∧ B ≤ g ∧ B ≤ q) (hb : LB w q 72 (epost .nilIface f) f 0 0) (hz : Blk w z 63 zc) {fk : Nat} {fc : Array Value} (hk : Enters Tryz.prog fk) (hf : Calls Tryz.prog fk fc w (VNew V5 147 (fraLP f.fa f.ft f.fb) w)) :
    Calls Tryz.prog 68 #[.pointer (some ⟨q, 0, none⟩), .pointer (some ⟨p, 0, none⟩), .func (.func fk) #[] fc] w (ERun B w p m k g cap t d hd rv ev rs es q f z zc 63 (lvS c s (fraLP f.fa f.ft f.fb, none))) := by
  have key : ∀ (b : Nat) (w1 : World), (V5 w1 b (fraLP f.fa f.ft f.fb, none) none ∧ w.heap.size ≤ b ∧ Below w.heap.size w w1) → LB w1 q 72 (epost .nilIface f) f 0 0 →
      B ≤ b ∧ B ≤ (w1.setCell ⟨q, 3, none⟩ (.iface 147 (.pointer (some ⟨b, 0, none⟩)))).heap.size ∧ Below B w (w1.setCell ⟨q, 3, none⟩ (.iface 147 (.pointer (some ⟨b, 0, none⟩)))) ∧
      TW B (w1.setCell ⟨q, 3, none⟩ (.iface 147 (.pointer (some ⟨b, 0, none⟩)))) p m k g cap s t d hd rv ev rs es ∧ V5 (w1.setCell ⟨q, 3, none⟩ (.iface 147 (.pointer (some ⟨b, 0, none⟩)))) b (fraLP f.fa f.ft f.fb, none) none ∧
      LB (w1.setCell ⟨q, 3, none⟩ (.iface 147 (.pointer (some ⟨b, 0, none⟩)))) q 72 (epost (.iface 147 (.pointer (some ⟨b, 0, none⟩))) f) f 0 0 ∧ Blk (w1.setCell ⟨q, 3, none⟩ (.iface 147 (.pointer (some ⟨b, 0, none⟩)))) z 63 zc := by
    intro b w1 ⟨hv, hbl, hbw⟩ hb1
    have hs : Fr [q] w1 (w1.setCell ⟨q, 3, none⟩ (.iface 147 (.pointer (some ⟨b, 0, none⟩)))) := (Fr.refl _ _).setCell (by simp) _
    have hbq : b ≠ q := fun e => by have := hb.blk.lt; omega
    have hz1 : Blk w1 z 63 zc := hz.of_same (hbw.block z hz.lt)
    have hzq : z ≠ q := hz1.apart hb1.blk (by decide)
    exact ⟨by omega, Nat.le_trans hB (Nat.le_trans hbw.size hs.size), (hbw.mono hB).trans (hs.below (Nat.le_trans hB hbw.size) (fun y hy => by simp only [List.mem_cons, List.not_mem_nil, or_false] at hy; omega)),
      (ht.below hbw).own hb1 hs (by decide) (by decide) (by decide), hv.fr hs (by simpa using hbq) (fun z hz => by cases hz), hb1.putv' _, hz1.of_same (hs.block z hz1.lt (by simpa using hzq))⟩
  refine (run_first_gen (pt := 147) (Made := fun b w1 => V5 w1 b (fraLP f.fa f.ft f.fb, none) none ∧ w.heap.size ≤ b ∧ Below w.heap.size w w1) (r := (lvS c s (fraLP f.fa f.ft f.fb, none)).2.2)
    (G := fun b w' => B ≤ b ∧ ∃ w2, Below B w w2 ∧ B ≤ w2.heap.size ∧ Blk w2 z 63 zc ∧ z ∉ m :: g :: b :: (none : Option Nat).toList ∧ EG B p m k g cap t d hd rv ev rs es q (epost (.iface 147 (.pointer (some ⟨b, 0, none⟩))) f) f b none (lvS c s (fraLP f.fa f.ft f.fb, none)) w2 w')
    meth_step_lvpusher ahead_step_lvpusher meth_result_lvpusher ahead_result_lvpusher (enters_of Tryz.func98 (by kernel_rfl) rfl) hb hk ?_ ?_).mono ?_
  · refine hf.mono ?_
    rintro e w1 ⟨b, rfl, hv, hbl, hbw⟩
    exact ⟨b, rfl, hb.below hbw, hv, hbl, hbw⟩
  · intro b w1 hm hb1
    obtain ⟨k1, k2, k3, k4, k5, k6, k7⟩ := key b w1 hm hb1
    refine (lvin_step k4 hc hin hu k2 ⟨hlo.1, hlo.2.1⟩ k6 k5 k1 (fun z hz => by cases hz)).mono ?_
    rintro e w' ⟨h1, h2, h3, h4⟩
    refine ⟨h1, h2, h3, k1, _, k3, k2, k7, ?_, h4⟩
    obtain ⟨cur, hgb, _⟩ := k4.e.mem.row.blk
    obtain ⟨cb, hbb⟩ := k5.blk
    simp only [List.mem_cons, Option.toList, List.not_mem_nil, not_or, or_false]
    exact ⟨k7.apart k4.e.mem.blk (by decide), k7.apart hgb (by decide), k7.apart hbb (by decide)⟩
  · rintro e w' ⟨b, h⟩
    cases hdn : (lvS c s (fraLP f.fa f.ft f.fb, none)).2.2.dn with
    | true =>
      obtain ⟨he, w1, n, ⟨a1, w2, a2, a3, a4, a5, a6⟩, rfl⟩ := h.1 hdn
      exact erun_of a3 a2 hlo.2.2 a1 a4 (by decide) a5 ⟨fun _ => ⟨he, w1, n, a6, rfl⟩, fun h2 => by rw [hdn] at h2; cases h2⟩
    | false =>
      obtain ⟨he, a1, w2, a2, a3, a4, a5, a6⟩ := h.2 hdn
      exact erun_of a3 a2 hlo.2.2 a1 a4 (by decide) a5 ⟨fun h2 => by rw [hdn] at h2; (cases h2), fun _ => ⟨he, a6⟩⟩
/-- What line 4 gives. -/
def E4Step (B : Nat) (w : World) (p m k g cap : Nat) (t d : Int) (hd : List Value) (rv ev : Value) (rs : List Rec) (es : List Ev) (q : Nat) (f : Fra) (y : St × (Fra × Option Fra) × Res) (e : Ending) (w' : World) : Prop :=
  e = .returned (.bool y.2.2.dn) ∧ TW B w' p m k g cap y.1 t d hd rv ev rs es ∧ Below B w w' ∧
  (y.2.2.dn = true → LB w' q 72 (epost .nilIface f) { f with ln := 0 } y.2.2.cd f.ft) ∧
  (y.2.2.dn = false → ∃ b i, LB w' q 72 (epost (.iface 147 (.pointer (some ⟨b, 0, none⟩))) f) f 0 0 ∧ V5 w' b y.2.1 i ∧ B ≤ b ∧ ∀ z, i = some z → B ≤ z)
set_option maxRecDepth 100000 in
set_option maxHeartbeats 4000000 in
theorem entrant_4 {y : St × (Fra × Option Fra) × Res} (hp : TW B w p m k g cap s t d hd rv ev rs es) (h : LB w q 72 (epost u f) f 0 0) (hB : B ≤ w.heap.size) (hlo : B ≤ m ∧ B ≤ g ∧ B ≤ q) (hln : f.ln = 4)
    (HR : ∀ (w0 : World), Below w.heap.size w w0 → Blk w0 w.heap.size 63 #[.pointer (some ⟨q, 0, none⟩)] → TW B w0 p m k g cap s t d hd rv ev rs es → LB w0 q 72 (epost u f) f 0 0 → Calls Tryz.prog 68 #[.pointer (some ⟨q, 0, none⟩), .pointer (some ⟨p, 0, none⟩), .func (.func 69) #[] #[.pointer (some ⟨w.heap.size, 0, none⟩)]] w0 (ERun B w0 p m k g cap t d hd rv ev rs es q f w.heap.size #[.pointer (some ⟨q, 0, none⟩)] 63 y)) :
    Calls Tryz.prog 59 #[.pointer (some ⟨q, 0, none⟩), .pointer (some ⟨p, 0, none⟩)] w (E4Step B w p m k g cap t d hd rv ev rs es q f y) := by
  have hmf : ∀ (fn : Fn) (first cap : Array Value) (w : World), (Instr.makeFunc fn first cap).run Tryz.prog w = .ok (.func fn first cap) w := fun _ _ _ _ => rfl
  have hx0 := Blk.made w 63 #[.pointer (some ⟨q, 0, none⟩)]
  have hA := below_one w (.cells #[.pointer (some ⟨q, 0, none⟩)] 63)
  have HLO := Lib.hid (show B ≤ w.heap.size ∧ B ≤ m ∧ B ≤ g ∧ B ≤ q from ⟨hB, hlo.1, hlo.2.1, hlo.2.2⟩)
  have B0 := Lib.hid (h.below hA)
  have F0 := Lib.hid (hA.mono hB)
  have HRR := Lib.hid (HR _ hA hx0 (hp.below hA) (h.below hA))
  clear hA hB hlo HR hp
  go_enter Tryz.func59, Tryz.ntmps59
  go_upto_region 1 with fail
  have Z0 := Lib.hid hx0
  generalize w.alloc (.cells #[.pointer (some ⟨q, 0, none⟩)] 63) = w0 at *
  have c0 : w0.cell? ⟨w.heap.size, 0, none⟩ = some (.pointer (some ⟨q, 0, none⟩)) := hx0.at_ 0
  have hc0 := lline_any B0.out
  rw [hln] at hc0
  have HC0 := Lib.hid hc0
  clear h hc0 hx0
  generalize hwz : w.heap.size = z at *
  have HSZ := Lib.hid (show B ≤ w.heap.size by rw [hwz]; exact HLO.out.1)
  clear hwz
  go_wp2_with fail
  (with_reducible refine HC0.out.mono ?_)
  rintro e wx ⟨rfl, rfl⟩
  clear HC0
  go_wp2_with fail
  (with_reducible refine HRR.out.mono ?_)
  rintro e w1 ⟨ht, hbl, hz, hd1, hd0⟩
  cases hdn : y.2.2.dn with
  | false =>
    obtain ⟨rfl, hrest⟩ := hd0 hdn
    have T1 := Lib.hid ht
    have F1 := Lib.hid (F0.out.trans hbl)
    have HE := Lib.hid hrest
    have HD := Lib.hid hdn
    clear ht hbl hz hd1 hd0 hrest hdn HRR
    go_wp2_with fail
    go_ret
    exact ⟨by rw [HD.out]; rfl, T1.out, F1.out, fun h => absurd h (by rw [HD.out]; decide), fun _ => HE.out⟩
  | true =>
    obtain ⟨rfl, hlb⟩ := hd1 hdn
    have T1 := Lib.hid ht
    have F1 := Lib.hid (F0.out.trans hbl)
    have B1 := Lib.hid hlb
    have HD := Lib.hid hdn
    have Z1 := Lib.hid hz
    clear ht hbl hz hd1 hd0 hlb hdn HRR
    go_upto_region 17 with fail
    have T2 := Lib.hid (show TW B w1.drew p m k g cap _ t d hd rv ev rs es from T1.out.below (below_drewN w1 1))
    have B2 := Lib.hid B1.out.drew
    have d6 : w1.drew.cell? ⟨q, 6, none⟩ = some (.int .i64 f.ft) := by rw [B2.out.blk.at_]; rfl
    have dz : w1.drew.cell? ⟨z, 0, none⟩ = some (.pointer (some ⟨q, 0, none⟩)) := Z1.out.at_ 0
    clear c0
    go_still_tail 9, (by kernel_rfl)
    go_wp2_with fail
    (with_reducible refine (lend_any B2.out y.2.2.cd f.ft).mono ?_)
    rintro e w3 ⟨rfl, hb, hf⟩
    have T3 := Lib.hid (T2.out.own B2.out hf (by decide) (by decide) (by decide))
    have B3 := Lib.hid hb
    have F3 := Lib.hid ((below_drew F1.out).trans (hf.below (Nat.le_trans HSZ.out (below_drew F1.out).size) (fun y hy => by have := HLO.out; simp only [List.mem_cons, List.not_mem_nil, or_false] at hy; omega)))
    clear hb hf
    go_wp2
    go_ret
    exact ⟨by rw [HD.out]; rfl, T3.out, F3.out, fun _ => B3.out, fun h => absurd h (by rw [HD.out]; decide)⟩
/-- A step of Enter: its frame, and the machine that line 4 runs, if it has begun. -/
def entX (c : Cfg) (t : Int) (y : St × List Rec × List Ev) (x : Fra × Option (Fra × Option Fra)) : (St × List Rec × List Ev) × (Fra × Option (Fra × Option Fra)) × Res :=
  if x.1.ln = 4 then
    if (lvS c y.1 (x.2.getD (fraLP x.1.fa x.1.ft x.1.fb, none))).2.2.dn = true then (((lvS c y.1 (x.2.getD (fraLP x.1.fa x.1.ft x.1.fb, none))).1, y.2), (x.1, none), ⟨true, (lvS c y.1 (x.2.getD (fraLP x.1.fa x.1.ft x.1.fb, none))).2.2.cd, x.1.ft⟩)
    else (((lvS c y.1 (x.2.getD (fraLP x.1.fa x.1.ft x.1.fb, none))).1, y.2), (x.1, some (lvS c y.1 (x.2.getD (fraLP x.1.fa x.1.ft x.1.fb, none))).2.1), .none)
  else (((entS c t y.1 x.1).1, y.2), ((entS c t y.1 x.1).2.1, none), (entS c t y.1 x.1).2.2)
/-- Block q is a machine of Enter. -/
def VE (c : Cfg) (B q : Nat) (w : World) (x : Fra × Option (Fra × Option Fra)) : Prop :=
  (match x.2 with
    | none => LB w q 72 (epost .nilIface x.1) x.1 0 0
    | some y => ∃ b i, LB w q 72 (epost (.iface 147 (.pointer (some ⟨b, 0, none⟩))) x.1) x.1 0 0 ∧ V5 w b y i ∧ B ≤ b ∧ ∀ z, i = some z → B ≤ z) ∧
  (∀ y, x.2 = some y → XU y ∧ x.1.ln = 4) ∧ (x.1.ln = 1 ∨ (isT c x.1.fb = true ∧ (x.1.ln = 2 ∨ x.1.ln = 3 ∨ x.1.ln = 4)))
theorem ent_U {f : Fra} {t : Int} (h : s.U) : (entS c t s f).1.U := by
  unfold entS
  split
  · split
    · exact go_U h _ _ _ (fun _ _ => uw_wrap _)
    split
    · exact go_U h _ _ _ (fun _ _ => uw_one)
    · exact go_U h _ _ _ (fun _ hx => hx)
  · exact h
variable {E n : Nat}
theorem ent_step (hc : TC B p m k g hd c) (hq : B ≤ q) {y : St × List Rec × List Ev} {x : Fra × Option (Fra × Option Fra)} (h : TI B p m k g cap t d hd rv c E n w y) (hv : VE c B q w x) :
    Calls Tryz.prog 59 #[.pointer (some ⟨q, 0, none⟩), .pointer (some ⟨p, 0, none⟩)] w (GStep B (TI B p m k g cap t d hd rv c E) (VE c B q) q n w (entX c t y x)) := by
  obtain ⟨ev, ht, hu, hr, he, hs⟩ := h
  obtain ⟨f, o⟩ := x
  obtain ⟨h1, h2, h3⟩ := hv
  have hlo : B ≤ m ∧ B ≤ g ∧ B ≤ q := ⟨hc.lo.2.1, hc.lo.2.2.2, hq⟩
  by_cases h4 : f.ln = 4
  · have hE : entX c t y (f, o) = if (lvS c y.1 (o.getD (fraLP f.fa f.ft f.fb, none))).2.2.dn = true then (((lvS c y.1 (o.getD (fraLP f.fa f.ft f.fb, none))).1, y.2), (f, none), ⟨true, (lvS c y.1 (o.getD (fraLP f.fa f.ft f.fb, none))).2.2.cd, f.ft⟩)
        else (((lvS c y.1 (o.getD (fraLP f.fa f.ft f.fb, none))).1, y.2), (f, some (lvS c y.1 (o.getD (fraLP f.fa f.ft f.fb, none))).2.1), .none) := by
      unfold entX
      rw [if_pos h4]
    have hXU : XU (o.getD (fraLP f.fa f.ft f.fb, none)) := by
      cases o with
      | none => exact ⟨⟨uw_zero, uw_zero, uw_zero, uw_zero⟩, fun y hy => by cases hy⟩
      | some y => exact (h2 y rfl).1
    have hU := lvS_U (c := c) hu hXU
    have hC : Calls Tryz.prog 59 #[.pointer (some ⟨q, 0, none⟩), .pointer (some ⟨p, 0, none⟩)] w (E4Step B w p m k g cap t d hd rv ev y.2.1 y.2.2 q f (lvS c y.1 (o.getD (fraLP f.fa f.ft f.fb, none)))) := by
      cases o with
      | none =>
        exact entrant_4 ht h1 hs hlo h4 (fun w0 hb hz ht0 hb0 => erun_first ht0 hc.l hc.i hu (Nat.le_trans hs hb.size) hlo hb0 hz (enters_of Tryz.func69 (by kernel_rfl) rfl) (enfn_any hb0 (hz.at_ 0)))
      | some z =>
        obtain ⟨b, i, hb, hv, hl1, hl2⟩ := h1
        exact entrant_4 ht hb hs hlo h4 (fun w0 hbw hz ht0 hb0 => erun_on ht0 hc.l hc.i hu (Nat.le_trans hs hbw.size) hlo hb0 (hv.below hbw) hl1 hl2 hz rfl _)
    rw [hE]
    generalize lvS c y.1 (o.getD (fraLP f.fa f.ft f.fb, none)) = z at *
    refine hC.mono ?_
    rintro e w' ⟨rfl, ht', hb', hd1, hd0⟩
    cases hdn : z.2.2.dn with
    | true =>
      simp only [if_true]
      exact ⟨rfl, ⟨ev, ht', hU.1, hr, by show y.2.2.length ≤ _; omega, Nat.le_trans hs hb'.size⟩, fun _ => ⟨_, _, _, hd1 hdn⟩, fun h => absurd (show true = false from h) (by decide), hb'⟩
    | false =>
      simp only [Bool.false_eq_true, if_false]
      obtain ⟨b, i, k1, k2, k3, k4⟩ := hd0 hdn
      exact ⟨rfl, ⟨ev, ht', hU.1, hr, by show y.2.2.length ≤ _; omega, Nat.le_trans hs hb'.size⟩, fun h => absurd (show false = true from h) (by decide), fun _ => ⟨⟨b, i, k1, k2, k3, k4⟩, fun x hx => by (cases hx; exact ⟨hU.2, h4⟩), .inr ⟨by rcases h3 with h3 | h3; exact absurd h4 (by show ¬ f.ln = 4; have : f.ln = 1 := h3; omega); exact h3.1, .inr (.inr h4)⟩⟩, hb'⟩
  · have ho : o = none := by
      cases o with
      | none => rfl
      | some z => exact absurd (h2 z rfl).2 h4
    subst ho
    replace h1 : LB w q 72 (epost .nilIface f) f 0 0 := h1
    have hE : entX c t y (f, none) = (((entS c t y.1 f).1, y.2), ((entS c t y.1 f).2.1, none), (entS c t y.1 f).2.2) := by
      unfold entX
      rw [if_neg h4]
    rw [hE]
    have hU := ent_U (c := c) (f := f) (t := t) hu
    have fin : ∀ {f' : Fra} {r : Res} {s' : St}, Calls Tryz.prog 59 #[.pointer (some ⟨q, 0, none⟩), .pointer (some ⟨p, 0, none⟩)] w (EStep B w p m k g cap s' t d hd rv ev y.2.1 y.2.2 q .nilIface f' r) → entS c t y.1 f = (s', f', r) → (r.dn = false → r.cd = 0 ∧ r.vl = 0 ∧ f'.fb = f.fb ∧ isT c f.fb = true ∧ (f'.ln = 2 ∨ f'.ln = 3 ∨ f'.ln = 4)) →
        Calls Tryz.prog 59 #[.pointer (some ⟨q, 0, none⟩), .pointer (some ⟨p, 0, none⟩)] w (GStep B (TI B p m k g cap t d hd rv c E) (VE c B q) q n w (((entS c t y.1 f).1, y.2), ((entS c t y.1 f).2.1, none), (entS c t y.1 f).2.2)) := by
      intro f' r s' hC e1 hdn
      rw [e1] at hU ⊢
      refine hC.mono ?_
      rintro e w' ⟨rfl, ht', hb', hbw⟩
      refine ⟨rfl, ⟨ev, ht', hU, hr, by show y.2.2.length ≤ _; omega, Nat.le_trans hs hbw.size⟩, fun _ => ⟨_, _, _, hb'⟩, fun h => ?_, hbw⟩
      replace h : r.dn = false := h
      obtain ⟨a1, a2, a3, a4, a5⟩ := hdn h
      rw [h, a1, a2] at hb'
      exact ⟨hb', (fun x hx => by cases hx), .inr ⟨by show isT c f'.fb = true; rw [a3]; exact a4, a5⟩⟩
    rcases h3 with h3 | ⟨ht4, h3⟩
    · replace h3 : f.ln = 1 := h3
      cases hT : isT c f.fb with
      | false => exact fin (entrant_miss ht hc.l hc.i h1 hs hlo h3 hT) (by unfold entS; rw [if_neg (by rw [hT]; decide)]) (fun h => by cases h)
      | true => exact fin (entrant_1 ht hc.l hc.i h1 hs hlo h3 hT) (by unfold entS; rw [if_pos hT, if_pos h3]) (fun _ => ⟨rfl, rfl, rfl, hT, .inl rfl⟩)
    · replace ht4 : isT c f.fb = true := ht4
      replace h3 : f.ln = 2 ∨ f.ln = 3 ∨ f.ln = 4 := h3
      rcases h3 with h3 | h3 | h3
      · exact fin (entrant_2 ht hc.l hc.i h1 hs hlo h3) (by unfold entS; rw [if_pos ht4, if_neg (by omega), if_pos h3]) (fun _ => ⟨rfl, rfl, rfl, ht4, .inr (.inl rfl)⟩)
      · exact fin (entrant_3 ht hc.l hc.i h1 hs hlo h3) (by unfold entS; rw [if_pos ht4, if_neg (by omega), if_neg (by omega)]) (fun _ => ⟨rfl, rfl, rfl, ht4, .inr (.inr rfl)⟩)
      · exact absurd h3 h4
end
end Go.Proofs.YtgipddeldddbnaaGreat
