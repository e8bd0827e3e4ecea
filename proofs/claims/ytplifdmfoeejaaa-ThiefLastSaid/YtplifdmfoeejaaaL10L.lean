/-
  The walk of the statement ThiefLast: it returns true.
-/
import Derived.Test.YtplifdmfoeejaaaMgBQ
import Derived.Test.YtplifdmfoeejaaaMgBR
namespace Go.Proofs.Ytplifdmfoeejaaa
open Go Go.RowKit Go.Shelf
set_option linter.unusedSimpArgs false
set_option linter.unusedVariables false

theorem DQ.cl {s : St} {n t : Nat} {l : List Int} (h : DQ s n t l) (ht : t < 9223372036854775808) : CL s n t t l :=
  ⟨h.nn, h.len, h.top, h.cap, ⟨Nat.le_refl _, by have := h.cap; have := h.nn; omega, ht⟩, h.ent⟩
theorem wrap_sm2 {x : Int} (h : 0 ≤ x ∧ x < 1000) : IntKind.i64.wrap x = x ∧ wrap64 x = x := ⟨IntWalk.i64_in _ (by omega), by unfold wrap64; omega⟩
/-- What the first loop keeps. -/
def LasR (w : World) (p m k g cap qb t0 : Nat) (e : Int) (x y : Nat) (i : Value) (wr : World) : Prop :=
  ∃ (j : Nat) (s : St) (X Y : Mach) (a b : Option Res), j ≤ 40 ∧ i = .int .i64 j ∧ LW w p m k g cap qb t0 e x y s X Y a b wr
/-- .. the second. -/
def LasS (w : World) (p m k g cap qb t0 : Nat) (e : Int) (x y : Nat) (i : Value) (wr : World) : Prop :=
  ∃ (j : Nat) (s : St) (X Y : Mach) (a b : Option Res), j ≤ 20 ∧ i = .int .i64 j ∧ LW w p m k g cap qb t0 e x y s X Y a b wr ∧ (X = .no ∨ (j : Int) + 1 ≤ X.line) ∧ (Y = .no ∨ (j : Int) + 1 ≤ Y.line)

set_option maxRecDepth 100000 in
set_option maxHeartbeats 16000000 in
theorem last_law {w : World} {la : Option Addr} {L : Nat} {B : Nat → Bool} (t : Nat) (v : Int) (lc : Nat) (ht : t < 18446744073709551616) (hl : InBs w la L B) :
    Calls Try.prog 7 #[.int .u64 t, .int .i64 v, .slice la L lc] w fun e w' => e = .returned (.bool true) ∧ Below w.heap.size w w' := by
  have hml := hl.1
  unfold maxLen at hml
  have HL := Lib.hid hl
  clear hl
  obtain ⟨t2, ht2, ht3⟩ : ∃ t2 : Nat, (t : Int) / 2 = (t2 : Int) ∧ t2 < 9223372036854775808 := ⟨t / 2, by omega, by omega⟩
  have HT := Lib.hid ht3
  go_enter Try.func7, Try.ntmps7
  go_wp2_with fail
  (with_reducible refine (queue_any 3 _).mono ?_)
  rintro e w2 ⟨rfl, hb2⟩
  have B2 := Lib.hid hb2
  clear hb2
  go_upto_region 2 with fail
  have Q3 := Lib.hid (Blk.made w2 25 (qcells 0 1 2 3))
  have B3 := Lib.hid (B2.out.alloc B2.out.size (.cells (qcells 0 1 2 3) 25))
  have HQB := Lib.hid B2.out.size
  generalize w2.alloc (.cells (qcells 0 1 2 3) 25) = W3 at *
  generalize w2.heap.size = qb at *
  clear B2
  have hin := ints_lone W3 v
  have Q4 := Lib.hid (Q3.out.alloc (.cells #[.int .i64 v] 3))
  have B4 := Lib.hid (B3.out.alloc B3.out.size (.cells #[.int .i64 v] 3))
  have hdq0 := dequeG_any (G := fun x => x = numl v 1000) hin 1 3 t2 1 (fun W hW j hj => by
    obtain rfl : j = 0 := by omega
    refine (keepnum_lone hW 1 1000 (by omega) (by omega)).mono ?_
    rintro e w' ⟨rfl, hm⟩
    have h := numl_in v 1000 (by omega)
    exact ⟨(numl v 1000).toNat, by omega, by omega, by rw [Int.toNat_of_nonneg h.1], hm⟩) (by omega) (by omega) (by omega)
  rw [show ((3 : Nat) : Int) = 3 from rfl, show ((1 : Nat) : Int) = 1 from rfl] at hdq0
  have HDQ0 := Lib.hid hdq0
  clear hdq0 hin Q3 B3
  go_wp2_with fail
  (with_reducible refine HDQ0.out.mono ?_)
  rintro e w4 ⟨gd, X, l, rfl, hr4, hX, hg4, hb4, hll, hG, hdx⟩
  obtain ⟨hd1, hd2⟩ := hdx (by omega)
  obtain ⟨ev, rfl⟩ : ∃ ev, l = [ev] := by
    match l, hll with
    | [ev], _ => exact ⟨ev, rfl⟩
  have hev : ev = numl v 1000 := hG ev (by simp)
  have hevr := numl_in v 1000 (by omega)
  have Q5 := Lib.hid (Q4.out.below hb4)
  have B5 := Lib.hid (B4.out.trans (hb4.mono B4.out.size))
  have R4 := Lib.hid hr4
  have HXX := Lib.hid (And.intro hX (And.intro hd1 hd2))
  have HEV := Lib.hid (And.intro hev hevr)
  clear hr4 hX hg4 hb4 Q4 B4 hd1 hd2 hdx hll hG hev hevr
  go_wp2_with fail
  (with_reducible refine (mbare_any R4.out.inW 6 (by omega)).mono ?_)
  rintro e w5 ⟨p, m, k, g, q, ag, acap, s, rfl, hd, hsX, hsc, hb5⟩
  have hs4 := B5.out.size
  have hdq := DQ.ofX hsX R4.out.len HXX.out.2.1 HXX.out.2.2 (by simp) (by omega)
  have A5 := Lib.hid (show AW w p m k g 6 hd0 nilV nilV 0 0 qb 3 s w5 from ⟨hd.e, Q5.out.below hb5, Row.inNN HXX.out.1 hsX, B5.out.trans (hb5.mono hs4), Nat.le_trans hs4 hd.bp, Nat.le_trans hs4 hd.bm, Nat.le_trans hs4 hd.bk, Nat.le_trans hs4 hd.bg, HQB.out⟩)
  have DQ5 := Lib.hid hdq
  clear hd hsX hsc hb5 Q5 HXX R4 hs4 hdq B5
  go_wp2_with fail
  have A6 := Lib.hid (A5.out.below (below_drew (Below.refl _ _)))
  have q0 : w5.drew.cell? ⟨qb, 0, none⟩ = some (.int .i64 0) := A6.out.q.at_ 0
  have q1 : w5.drew.cell? ⟨qb, 1, none⟩ = some (.int .i64 1) := A6.out.q.at_ 1
  have q2 : w5.drew.cell? ⟨qb, 2, none⟩ = some (.int .i64 2) := A6.out.q.at_ 2
  have q3 : w5.drew.cell? ⟨qb, 3, none⟩ = some (.int .i64 3) := A6.out.q.at_ 3
  go_region_held3 (fun w' => w'.cell? ⟨qb, 0, none⟩ = some (.int .i64 0) ∧ w'.cell? ⟨qb, 1, none⟩ = some (.int .i64 1) ∧ w'.cell? ⟨qb, 2, none⟩ = some (.int .i64 2) ∧ w'.cell? ⟨qb, 3, none⟩ = some (.int .i64 3)) ((first | exact ⟨z0, z1, z2, z3⟩ | exact ⟨v0, v1, v2, v3⟩ | exact ⟨q0, q1, q2, q3⟩ | go_keep))
    (first
     | (go_at_call 14
        refine (oPop_any 0 1 2 3 _).mono ?_
        rintro e w7 ⟨x, rfl, ho, hx, hb7⟩
        have A7 := Lib.hid (A6.out.below hb7)
        have hxw : w.heap.size ≤ x := Nat.le_trans A6.out.b.size hx
        have v0 : w7.cell? ⟨qb, 0, none⟩ = some (.int .i64 0) := A7.out.q.at_ 0
        have v1 : w7.cell? ⟨qb, 1, none⟩ = some (.int .i64 1) := A7.out.q.at_ 1
        have v2 : w7.cell? ⟨qb, 2, none⟩ = some (.int .i64 2) := A7.out.q.at_ 2
        have v3 : w7.cell? ⟨qb, 3, none⟩ = some (.int .i64 3) := A7.out.q.at_ 3)
     | (go_at_call 22
        refine (oSteal_any 0 1 2 3 _).mono ?_
        rintro e w8 ⟨y, rfl, hy, hyx, hb8⟩
        have A8 := Lib.hid (A7.out.below hb8)
        have hxy : x ≠ y := by have := ho.blk.lt; omega
        have hyw : w.heap.size ≤ y := Nat.le_trans A7.out.b.size hyx
        have ho8 := ho.below hb8
        have z0 : w8.cell? ⟨qb, 0, none⟩ = some (.int .i64 0) := A8.out.q.at_ 0
        have z1 : w8.cell? ⟨qb, 1, none⟩ = some (.int .i64 1) := A8.out.q.at_ 1
        have z2 : w8.cell? ⟨qb, 2, none⟩ = some (.int .i64 2) := A8.out.q.at_ 2
        have z3 : w8.cell? ⟨qb, 3, none⟩ = some (.int .i64 3) := A8.out.q.at_ 3))
  have L0 := Lib.hid (show LW w p m k g 6 qb t2 ev x y s (.pop (fra1 1 0 1 2 3 0)) (.steal (fra1 2 0 1 2 3 0)) none none w8 from
    ⟨A8.out, .inl ⟨_, rfl, rfl, popOk1 3 (by omega), ho8⟩, .inl ⟨_, rfl, rfl, stealOk1 3 (by omega), hy⟩, Meet.begin (DQ5.out.cl HT.out) DQ5.out.bot ⟨rfl, rfl, rfl, rfl⟩ rfl ⟨rfl, rfl, rfl, rfl⟩ rfl, hxy, hxw, hyw⟩)
  clear A6 A7 A8 hxy hyw hxw ho hx hb7 hy hyx hb8 ho8 q0 q1 q2 q3 v0 v1 v2 v3 z0 z1 z2 z3 A5 DQ5
  go_wp2_with fail
  (with_reducible refine (awake10_any _).mono ?_)
  rintro e w9 ⟨rfl, hb9⟩
  have L1 := Lib.hid (L0.out.below hb9)
  clear hb9 L0
  have km := meth_step_popper x
  have ka := ahead_step_popper x
  have kn := meth_step_stealer y
  have kb := ahead_step_stealer y
  go_wp2_with fail
  go_loopw [13] (fun i wr => LasR w p m k g 6 qb t2 ev x y i wr) (fun i _ => 40 - (intOf i).toNat)
  case atStart => exact ⟨0, s, _, _, none, none, by omega, rfl, L1.out⟩
  case round =>
    clear L1
    obtain ⟨j, s, X, Y, a, b, hj, rfl, hS⟩ := hrel
    have S := Lib.hid hS
    clear hS
    by_cases hlt : j < 40
    case neg =>
      obtain rfl : j = 40 := by omega
      go_wp2_with fail
      go_loopw [14] (fun i wr => LasS w p m k g 6 qb t2 ev x y i wr) (fun i _ => 20 - (intOf i).toNat)
      case atStart =>
        have h1 := S.out.px.line
        have h2 := S.out.sx.line
        exact ⟨0, s, X, Y, a, b, by omega, rfl, S.out, h1.imp id (fun h => by omega), h2.imp id (fun h => by omega)⟩
      case round =>
        clear S
        obtain ⟨j, s, X, Y, a, b, hj, rfl, hS, hl1, hl2⟩ := hrel
        have S := Lib.hid hS
        have HLL := Lib.hid (And.intro hl1 hl2)
        clear hS hl1 hl2
        by_cases hlt : j < 20
        · have HX := Lib.hid S.out.pop
          clear S
          go_wp2_with fail
          (with_reducible refine HX.out.mono ?_)
          rintro en w1 ⟨d, s', X', a', rfl, hS', hp⟩
          have HY := Lib.hid hS'.steal
          have HP := Lib.hid hp
          clear hS' HX hp
          go_wp2_with fail
          (with_reducible refine HY.out.mono ?_)
          rintro en w2 ⟨d2, s'', Y', b', rfl, hS', hp2⟩
          have S2 := Lib.hid hS'
          have HP2 := Lib.hid hp2
          clear hS' HY hp2
          go_wp2_with fail
          go_roundw
          case rel =>
            (repeat apply Exists.intro)
            refine ⟨⟨j + 1, s'', X', Y', a', b', by omega, by go_num, S2.out, ?_, ?_⟩, rfl⟩
            · rcases HP.out with h | h
              · exact .inl h
              · rcases HLL.out.1 with h0 | h0
                · subst h0
                  rcases S2.out.px.line with h1 | h1
                  · exact .inl h1
                  · have : Mach.no.line = 10 := rfl
                    omega
                · exact .inr (by omega)
            · rcases HP2.out with h | h
              · exact .inl h
              · rcases HLL.out.2 with h0 | h0
                · subst h0
                  rcases S2.out.sx.line with h1 | h1
                  · exact .inl h1
                  · have : Mach.no.line = 10 := rfl
                    omega
                · exact .inr (by omega)
          case measure => simp [intOf]; omega
        · obtain rfl : j = 20 := by omega
          obtain rfl : X = .no := by
            rcases S.out.px.line with h | h
            · exact h
            · rcases HLL.out.1 with h0 | h0
              · exact h0
              · omega
          obtain rfl : Y = .no := by
            rcases S.out.sx.line with h | h
            · exact h
            · rcases HLL.out.2 with h0 | h0
              · exact h0
              · omega
          obtain ⟨ra, fa, rfl, hox⟩ : ∃ (ra : Res) (fa : Fra), a = some ra ∧ OB wr x 91 [] { fa with ln := 0 } ra.cd ra.vl := by
            rcases S.out.px with ⟨f, e, _⟩ | ⟨_, r, f, e, ho⟩
            · cases e
            · exact ⟨r, f, e, ho⟩
          obtain ⟨rb, fb, u, rfl, hoy⟩ : ∃ (rb : Res) (fb : Fra) (u : Int), b = some rb ∧ OB wr y 100 [.int .u64 u] { fb with ln := 0 } rb.cd rb.vl := by
            rcases S.out.sx with ⟨f, e, _⟩ | ⟨_, r, f, u, e, ho⟩
            · cases e
            · exact ⟨r, f, u, e, ho⟩
          have hm := S.out.me.done
          rw [HEV.out.1, (wrap_sm2 HEV.out.2).1, (wrap_sm2 HEV.out.2).2] at hm
          have HM := Lib.hid hm
          have HOX := Lib.hid hox
          have HOY := Lib.hid hoy
          have B0 := Lib.hid S.out.aw.b
          have kr := meth_result_popper x
          have kc := ahead_result_popper x
          have ks := meth_result_stealer y
          have kd := ahead_result_stealer y
          clear hm hox hoy S km ka kn kb
          go_wp2_with fail
          (with_reducible refine (oresult_any HOX.out).mono ?_)
          rintro en w1 ⟨rfl, nd, rfl⟩
          have HY2 := Lib.hid (HOY.out.drewN nd)
          have B1 := Lib.hid (B0.out.trans ((below_drewN wr nd).mono B0.out.size))
          generalize wr.drewN nd = W1 at *
          clear HOX HOY B0
          go_wp2_with fail
          (with_reducible refine (oresult_any HY2.out).mono ?_)
          rintro en w1 ⟨rfl, nd2, rfl⟩
          have B5 := Lib.hid (B1.out.trans ((below_drewN W1 nd2).mono B1.out.size))
          generalize W1.drewN nd2 = W5 at *
          clear HY2 B1 kr kc ks kd
          obtain ⟨adn, acd, avl⟩ := ra
          obtain ⟨bdn, bcd, bvl⟩ := rb
          rcases HM.out with ⟨h1, h2, h3⟩ | ⟨h1, h2, h3⟩
          · replace h1 : acd = 1 := h1
            replace h2 : avl = numl v 1000 := h2
            replace h3 : (bcd == 1) = false := by simpa using h3
            subst h1 h2
            clear HM
            go_wp2_with fail
            (with_reducible refine (keepnum_lone (ints_lone W5 v) 1 1000 (by omega) (by omega)).mono ?_)
            rintro en w6 ⟨rfl, nd3, rfl⟩
            have B6 := Lib.hid ((B5.out.alloc B5.out.size (.cells #[.int .i64 v] 3)).trans ((below_drewN _ nd3).mono (B5.out.alloc B5.out.size (.cells #[.int .i64 v] 3)).size))
            generalize (W5.alloc (.cells #[.int .i64 v] 3)).drewN nd3 = W6 at *
            clear B5
            generalize numl v 1000 = E at *
            go_wp2
            go_ret
            exact ⟨rfl, B6.out⟩
          · replace h1 : (acd == 1) = false := by simpa using h1
            replace h2 : bcd = 1 := h2
            replace h3 : bvl = numl v 1000 := h3
            subst h2 h3
            clear HM
            go_wp2_with fail
            (with_reducible refine (keepnum_lone (ints_lone W5 v) 1 1000 (by omega) (by omega)).mono ?_)
            rintro en w6 ⟨rfl, nd3, rfl⟩
            have B6 := Lib.hid ((B5.out.alloc B5.out.size (.cells #[.int .i64 v] 3)).trans ((below_drewN _ nd3).mono (B5.out.alloc B5.out.size (.cells #[.int .i64 v] 3)).size))
            generalize (W5.alloc (.cells #[.int .i64 v] 3)).drewN nd3 = W6 at *
            clear B5
            generalize numl v 1000 = E at *
            go_wp2
            go_ret
            exact ⟨rfl, B6.out⟩
    have HX := Lib.hid S.out.pop
    have HY := Lib.hid S.out.steal
    have hj2 : (j : Int) < 40 := by omega
    by_cases hn : j < L
    · obtain ⟨x0, rfl, hx0, hc0⟩ := (HL.out.below S.out.aw.b).2 j hn
      have hn2 : (j : Int) < (L : Int) := by omega
      have hn0 : (0 : Int) ≤ (j : Int) := by omega
      clear S hx0
      cases hB : B j with
      | true =>
        rw [hB] at hc0
        clear hB
        go_wp2_with fail
        (with_reducible refine HX.out.mono ?_)
        rintro en w1 ⟨d, s', X', a', rfl, hS', _⟩
        have S2 := Lib.hid hS'
        clear hS'
        go_wp2_with fail
        go_roundw
        case rel => exact ⟨j + 1, s', X', Y, a', b, by omega, by go_num, S2.out⟩
        case measure => simp [intOf]; omega
      | false =>
        rw [hB] at hc0
        clear hB
        go_wp2_with fail
        (with_reducible refine HY.out.mono ?_)
        rintro en w1 ⟨d, s', Y', b', rfl, hS', _⟩
        have S2 := Lib.hid hS'
        clear hS'
        go_wp2_with fail
        go_roundw
        case rel => exact ⟨j + 1, s', X, Y', a, b', by omega, by go_num, S2.out⟩
        case measure => simp [intOf]; omega
    · have hn2 : ¬ (j : Int) < (L : Int) := by omega
      have hn3 : (L : Int) ≤ (j : Int) := by omega
      clear S
      by_cases h2 : j % 2 = 0
      · have h3 : (j : Int) % 2 = 0 := by omega
        have h4 : ((j : Int) % 2 == 0) = true := by simp [h3]
        go_wp2_with fail
        (with_reducible refine HX.out.mono ?_)
        rintro en w1 ⟨d, s', X', a', rfl, hS', _⟩
        have S2 := Lib.hid hS'
        clear hS'
        go_wp2_with fail
        go_roundw
        case rel => exact ⟨j + 1, s', X', Y, a', b, by omega, by go_num, S2.out⟩
        case measure => simp [intOf]; omega
      · have h3 : (j : Int) % 2 = 1 := by omega
        have h4 : ((j : Int) % 2 == 0) = false := by simp [h3]
        go_wp2_with fail
        (with_reducible refine HY.out.mono ?_)
        rintro en w1 ⟨d, s', Y', b', rfl, hS', _⟩
        have S2 := Lib.hid hS'
        clear hS'
        go_wp2_with fail
        go_roundw
        case rel => exact ⟨j + 1, s', X, Y', a, b', by omega, by go_num, S2.out⟩
        case measure => simp [intOf]; omega
end Go.Proofs.Ytplifdmfoeejaaa
