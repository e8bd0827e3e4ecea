/-
  The walk of the statement OwnerKeeps: it returns true.
-/
import Derived.Test.YtplifdmfoeejaaaMgAN
import Derived.Test.YtplifdmfoeejaaaMgAY
import Derived.Test.YtplifdmfoeejaaaMgBC
namespace Go.Proofs.Ytplifdmfoeejaaa
open Go Go.RowKit Go.Shelf
set_option linter.unusedSimpArgs false
set_option linter.unusedVariables false

/-- What the law carries along: both environments (the reference's has been in state s0 since the beginning), and the deque's value. -/
structure KW (w0 : World) (B p m k g cap : Nat) (q : Nat) (a : EnvA) (qb n : Nat) (s s0 : St) (w : World) : Prop where
  u : Duo w B p m k g cap hd0 nilV nilV q a s s0 0 0 [] [] [] []
  q : Blk w qb 25 (qcells 0 1 2 n)
  n : s.N
  b : Below w0.heap.size w0 w
  lo : w0.heap.size ≤ B
section
variable {w0 w w' : World} {B p m k g cap : Nat} {q : Nat} {a : EnvA} {qb n : Nat} {s s' s0 : St}
theorem KW.below (h : KW w0 B p m k g cap q a qb n s s0 w) (hb : Below w.heap.size w w') : KW w0 B p m k g cap q a qb n s s0 w' :=
  ⟨h.u.below hb, h.q.below hb, h.n, h.b.trans (hb.mono h.b.size), h.lo⟩
theorem KW.done (h : KW w0 B p m k g cap q a qb n s s0 w) {x : Nat} {ty : TypeId} {post : List Value} {f : Fra} {cd vl : Int} (ho : OB w x ty post f cd vl) (ht : Odd ty) (ht2 : ty ≠ 25) (hx : B ≤ x) (hp : PE w' p m k g cap s' 0 0 hd0 nilV nilV) (hf : Fr [m, g, x] w w') (hn : s'.N) : KW w0 B p m k g cap q a qb n s' s0 w' := by
  obtain ⟨cur, hg, _⟩ := h.u.e.mem.row.blk
  refine ⟨h.u.prog ho.blk ht hx hp hf, h.q.of_same (hf.block qb h.q.lt ?_), hn, below_of_fr h.b hf (fun y hy => ?_), h.lo⟩
  · simp only [List.mem_cons, List.not_mem_nil, or_false, not_or]
    exact ⟨h.q.apart h.u.e.mem.blk (by decide), h.q.apart hg (by decide), h.q.apart ho.blk (fun e => ht2 e.symm)⟩
  · have := h.lo
    have := h.u.lowX hx y hy
    omega
end
theorem odd_pusher9 : Odd 88 := ⟨by decide, by decide, by decide, by decide, by decide, by decide, by decide, by decide⟩
theorem odd_popper9 : Odd 91 := ⟨by decide, by decide, by decide, by decide, by decide, by decide, by decide, by decide⟩

/-- What a push does to a deque: an entry more, or nothing. -/
theorem DQ.pushed {s : St} {n t : Nat} {l : List Int} (h : DQ s n t l) (hb : t + l.length < 18446744073709551000) (v : Int) : ∃ s' c N l', runS pushS 20 s (fra1 0 0 1 2 n v) = some (s', ⟨true, c, 0⟩, N) ∧ DQ s' n t l' ∧
    ((c = 3 ∧ l.length = n ∧ l' = l) ∨ (c = 0 ∧ l.length < n ∧ l' = l ++ [IntKind.u64.wrap v])) := by
  have := h.cap
  by_cases hl : l.length = n
  · obtain ⟨s', h1, h2⟩ := h.full hl v
    exact ⟨s', 3, 2, l, h1, h2, .inl ⟨rfl, hl, rfl⟩⟩
  · obtain ⟨s', h1, h2⟩ := h.push (by omega) hb v
    exact ⟨s', 0, 4, _, h1, h2, .inr ⟨rfl, by omega, rfl⟩⟩
/-- What a pop does: the last entry is taken, the others stay. -/
theorem DQ.popped {s : St} {n t : Nat} {l : List Int} (h : DQ s n t l) (hb : t + l.length < 18446744073709550000) : ∃ s' c v N t' l', runS popS 20 s (fra1 1 0 1 2 n 0) = some (s', ⟨true, c, v⟩, N) ∧ DQ s' n t' l' ∧
    ((l = [] ∧ c = 2) ∨ (∃ l0 x, l = l0 ++ [x] ∧ c = 1 ∧ v = IntKind.i64.wrap x ∧ l' = l0 ∧ (l0 ≠ [] → t' = t))) := by
  rcases Nat.eq_zero_or_pos l.length with h0 | h0
  · obtain rfl : l = [] := List.eq_nil_of_length_eq_zero h0
    obtain ⟨s', h1, h2⟩ := h.none
    exact ⟨s', 2, 0, 2, t, [], h1, h2, .inl ⟨rfl, rfl⟩⟩
  · obtain ⟨l0, x, rfl⟩ := list_last h0
    rcases Nat.eq_zero_or_pos l0.length with h1 | h1
    · obtain rfl : l0 = [] := List.eq_nil_of_length_eq_zero h1
      obtain ⟨s', h2, h3⟩ := DQ.last (v := x) h (by simp at hb; omega)
      exact ⟨s', 1, _, 7, t + 1, [], h2, h3, .inr ⟨[], x, rfl, rfl, rfl, rfl, fun e => absurd rfl e⟩⟩
    · obtain ⟨s', h2, h3⟩ := DQ.pop (v := x) h h1 (by simp at hb; omega)
      exact ⟨s', 1, _, 5, t, l0, h2, h3, .inr ⟨l0, x, rfl, rfl, rfl, rfl, fun _ => rfl⟩⟩

theorem keeps_math {s : St} {n t : Nat} {l : List Int} (h : DQ s n t l) (hb : t + l.length < 18446744073709540000) {v : Int} (hv : -9223372036854775808 ≤ v ∧ v ≤ 9223372036854775807) : ∃ s1 c1 N1 s2 c2 v2 N2, runS pushS 20 s (fra1 0 0 1 2 n v) = some (s1, ⟨true, c1, 0⟩, N1) ∧ runS popS 20 s1 (fra1 1 0 1 2 n 0) = some (s2, ⟨true, c2, v2⟩, N2) ∧
    (∀ i : Nat, i < l.length → s1.old ((2 + (t + i) % n : Nat) : Int) = s.old ((2 + (t + i) % n : Nat) : Int)) ∧ (∀ i : Nat, i + 1 < l.length → s2.old ((2 + (t + i) % n : Nat) : Int) = s.old ((2 + (t + i) % n : Nat) : Int)) ∧
    ((c1 = 3 ∧ l.length = n) ∨ (c1 = 0 ∧ l.length < n ∧ c2 = 1 ∧ v2 = v)) := by
  obtain ⟨s1, c1, N1, l1, r1, d1, hc⟩ := h.pushed (by omega) v
  have hl1 : l1.length ≤ l.length + 1 := by
    rcases hc with ⟨_, _, rfl⟩ | ⟨_, _, rfl⟩
    · omega
    · simp
  obtain ⟨s2, c2, v2, N2, t', l2, r2, d2, hd⟩ := d1.popped (by omega)
  have e1 : ∀ i : Nat, i < l.length → s1.old ((2 + (t + i) % n : Nat) : Int) = s.old ((2 + (t + i) % n : Nat) : Int) := by
    intro i hi
    rcases hc with ⟨_, _, rfl⟩ | ⟨_, _, rfl⟩
    · rw [d1.ent i hi, h.ent i hi]
    · rw [d1.ent i (by simp; omega), h.ent i hi, List.getD_eq_getElem?_getD, List.getD_eq_getElem?_getD, List.getElem?_append_left hi]
  have hcap := h.cap
  have hnn := h.nn
  refine ⟨s1, c1, N1, s2, c2, v2, N2, r1, r2, e1, fun i hi => ?_, ?_⟩
  · rcases hd with ⟨e, _⟩ | ⟨l0, x, e, _, _, rfl, ht⟩
    · rcases hc with ⟨_, h2, h3⟩ | ⟨_, _, h3⟩
      · rw [e] at h3
        rw [← h3] at hi
        simp at hi
      · rw [e] at h3
        simp at h3
    · have hlen : l1.length = l2.length + 1 := by rw [e]; simp
      have hl0 : i < l2.length := by
        rcases hc with ⟨_, _, h3⟩ | ⟨_, _, h3⟩
        · rw [h3] at hlen
          omega
        · rw [h3] at hlen
          simp at hlen
          omega
      have ht' := ht (by intro e; rw [e] at hl0; simp at hl0)
      have h5 := d2.ent i hl0
      rw [ht'] at h5
      rw [h5, ← e1 i (by omega), d1.ent i (by omega), e, List.getD_eq_getElem?_getD, List.getD_eq_getElem?_getD, List.getElem?_append_left hl0]
  · rcases hc with ⟨h1, h2, h3⟩ | ⟨h1, h2, h3⟩
    · exact .inl ⟨h1, h2⟩
    · refine .inr ⟨h1, h2, ?_⟩
      rcases hd with ⟨e, _⟩ | ⟨l0, x, e, e2, e3, _, _⟩
      · rw [e] at h3
        simp at h3
      · rw [h3] at e
        have := List.append_inj_right' e rfl
        simp only [List.cons.injEq, and_true] at this
        refine ⟨e2, ?_⟩
        rw [e3, ← this]
        rw [IntKind.wrap_u64, IntKind.wrap_i64]
        omega

/-- What a loop over the entries keeps. -/
def KeR (w0 : World) (B p m k g cap q : Nat) (a : EnvA) (qb n : Nat) (s s0 : St) (K : Nat) (i : Value) (wr : World) : Prop :=
  ∃ j : Nat, j ≤ K ∧ i = .int .i64 j ∧ KW w0 B p m k g cap q a qb n s s0 wr

set_option maxRecDepth 100000 in
set_option maxHeartbeats 16000000 in
theorem keeps_law {w : World} {va : Option Addr} {vn : Nat} {vz : List Int} (n sz : Int) (t : Nat) (vc : Nat) (v : Int) (hn : 0 ≤ n ∧ n ≤ 255) (hsz : 0 ≤ sz ∧ sz ≤ 255) (ht : t < 18446744073709551616) (hv : InInts w va vn vz) (hvr : -9223372036854775808 ≤ v ∧ v ≤ 9223372036854775807) :
    Calls Try.prog 4 #[.int .u8 n, .int .u8 sz, .int .u64 t, .slice va vn vc, .int .i64 v] w fun e w' => e = .returned (.bool true) ∧ Below w.heap.size w w' := by
  have hb0 := below_one w (.cells #[.slice va vn vc] 23)
  have hX := Blk.made w 23 #[.slice va vn vc]
  have hmv := hv.2.1
  unfold maxLen at hmv
  have HS := Lib.hid (short1_any hX (by omega))
  have B0 := Lib.hid hb0
  have HV := Lib.hid hv
  obtain ⟨sb, hsb⟩ : ∃ sb, decide ((vn : Int) ≤ 400) = sb := ⟨_, rfl⟩
  rw [hsb] at HS
  clear hX hb0 hv hsb
  obtain ⟨C, hC, hC2⟩ : ∃ C : Nat, 1 + n % 9 = (C : Int) ∧ (1 ≤ C ∧ C ≤ 9) := ⟨(1 + n % 9).toNat, by omega, by omega⟩
  obtain ⟨K, hK, hK2⟩ : ∃ K : Nat, sz % ((C : Int) + 1) = (K : Int) ∧ K ≤ C := by
    have h1 := Int.emod_nonneg sz (show ((C : Int) + 1) ≠ 0 by omega)
    have h2 := Int.emod_lt_of_pos sz (show (0 : Int) < (C : Int) + 1 by omega)
    exact ⟨(sz % ((C : Int) + 1)).toNat, by omega, by omega⟩
  obtain ⟨t2, ht2, ht3⟩ : ∃ t2 : Nat, (t : Int) / 2 = (t2 : Int) ∧ t2 < 9223372036854775808 := ⟨t / 2, by omega, by omega⟩
  have HC := Lib.hid (And.intro hC2 (And.intro hK2 ht3))
  go_enter Try.func4, Try.ntmps4
  go_wp2_with fail
  (with_reducible refine HS.out.mono ?_)
  rintro e w1 ⟨rfl, rfl⟩
  cases sb with
  | false =>
    go_wp2
    go_ret
    exact ⟨rfl, B0.out⟩
  | true =>
  go_wp2_with fail
  (with_reducible refine (queue_any C _).mono ?_)
  rintro e w2 ⟨rfl, hb2⟩
  have B2 := Lib.hid (B0.out.trans (hb2.mono B0.out.size))
  clear hb2 B0 HS
  go_upto_region 7 with fail
  have Q3 := Lib.hid (Blk.made w2 25 (qcells 0 1 2 C))
  have B3 := Lib.hid (B2.out.alloc B2.out.size (.cells (qcells 0 1 2 C) 25))
  generalize w2.alloc (.cells (qcells 0 1 2 C) 25) = W3 at *
  generalize w2.heap.size = qb at *
  clear B2
  go_wp2_with fail
  (with_reducible refine (deque_any (HV.out.below B3.out) vc C t2 K (by omega) (by omega) hK2).mono ?_)
  rintro e w4 ⟨gd, X, l, rfl, hr4, hX, hg4, hb4, hll, _, hdx⟩
  obtain ⟨hd1, hd2⟩ := hdx (by omega)
  have Q4 := Lib.hid (Q3.out.below hb4)
  have B4 := Lib.hid (B3.out.trans (hb4.mono B3.out.size))
  have R4 := Lib.hid hr4
  have HXX := Lib.hid (And.intro hX (And.intro hd1 (And.intro hd2 hll)))
  clear hr4 hX hg4 hb4 Q3 B3 hd1 hd2 hdx hll
  go_wp2_with fail
  (with_reducible refine (mbare_any R4.out.inW (C + 3) (by omega)).mono ?_)
  rintro e w5 ⟨p, m, k, g, q, ag, acap, s, rfl, hd, hsX, hsc, hb5⟩
  have hdq := DQ.ofX hsX R4.out.len HXX.out.2.1 (by rw [HXX.out.2.2.2]; exact HXX.out.2.2.1) (by have := HXX.out.2.2.2; omega) (by omega)
  have K5 := Lib.hid (show KW w w4.heap.size p m k g (C + 3) q (bareA ag acap) qb C s s w5 from ⟨hd, Q4.out.below hb5, Row.inNN HXX.out.1 hsX, B4.out.trans (hb5.mono B4.out.size), B4.out.size⟩)
  have DQ5 := Lib.hid hdq
  have HLL := Lib.hid HXX.out.2.2.2
  clear hd hsX hsc hb5 Q4 R4 hdq B4 HXX
  go_wp2_with fail
  (with_reducible refine (awake9_any _).mono ?_)
  rintro e w6 ⟨rfl, hb6⟩
  have K6 := Lib.hid (K5.out.below hb6)
  clear hb6 K5
  obtain ⟨s1, c1, N1, s2, c2, v2, N2, r1, r2, he1, he2, hcc⟩ := keeps_math DQ5.out (by have := HLL.out; have := HC.out; omega) hvr
  rw [HLL.out] at he1 he2 hcc
  have n1 := runS_N push_keeps 20 K6.out.n (pushOk1 C (by omega) v) r1
  have n2 := runS_N pop_keeps 20 n1 (popOk1 C (by omega)) r2
  have R1 := Lib.hid (And.intro r1 (And.intro n1 (And.intro r2 n2)))
  have E1 := Lib.hid he1
  have E2 := Lib.hid he2
  have HCC := Lib.hid hcc
  clear r1 r2 n1 n2 he1 he2 hcc DQ5 HLL
  have q0 : w6.cell? ⟨qb, 0, none⟩ = some (.int .i64 0) := K6.out.q.at_ 0
  have q1 : w6.cell? ⟨qb, 1, none⟩ = some (.int .i64 1) := K6.out.q.at_ 1
  have q2 : w6.cell? ⟨qb, 2, none⟩ = some (.int .i64 2) := K6.out.q.at_ 2
  have q3 : w6.cell? ⟨qb, 3, none⟩ = some (.int .i64 C) := K6.out.q.at_ 3
  go_wp2_with fail
  (with_reducible refine (oPush_any 0 1 2 C v _).mono ?_)
  rintro e w7 ⟨x, rfl, ho, hx, hb7⟩
  have K7 := Lib.hid (K6.out.below hb7)
  have O7 := Lib.hid (And.intro ho (show w4.heap.size ≤ x by have := K6.out.u.f.m.blk.lt; have := K6.out.u.f.hp; omega))
  clear ho hx hb7 q0 q1 q2 q3 K6
  go_wp2_with fail
  (with_reducible refine (alone_pusher K7.out.u.e O7.out.1 K7.out.n (pushOk1 C (by omega) v) R1.out.1).mono ?_)
  rintro e w8 ⟨rfl, hp8, hf8⟩
  have K8 := Lib.hid (K7.out.done O7.out.1 odd_pusher9 (by decide) O7.out.2 hp8 hf8 R1.out.2.1)
  clear hp8 hf8 K7 O7
  go_wp2_with fail
  go_loopw [20] (fun i wr => KeR w w4.heap.size p m k g (C + 3) q (bareA ag acap) qb C s1 s K i wr) (fun i _ => K - (intOf i).toNat)
  case atStart => exact ⟨0, by omega, rfl, K8.out⟩
  case round =>
    clear K8
    obtain ⟨j, hj, rfl, hk⟩ := hrel
    have KK := Lib.hid hk
    clear hk
    by_cases hlt : j < K
    case pos =>
      have hV0 : (0 : Int) ≤ (t2 : Int) + (j : Int) := by omega
      have hV1 : IntKind.u64.wrap ((t2 : Int) + (j : Int)) = (t2 : Int) + (j : Int) := IntWalk.u64_in _ (by omega)
      have hrg := fun W : World => ring_any 0 1 2 C ((t2 : Int) + (j : Int)) hV0 (by omega) W
      rw [show (t2 : Int) + (j : Int) = ((t2 + j : Nat) : Int) by omega, ring_of C (by omega)] at hrg
      rw [show ((t2 + j : Nat) : Int) = (t2 : Int) + (j : Int) by omega] at hrg
      obtain ⟨A, hA⟩ : ∃ A : Nat, 2 + (t2 + j) % C = A := ⟨_, rfl⟩
      rw [hA] at hrg
      have HRG := Lib.hid hrg
      have heq := E1.out j (by omega)
      rw [hA] at heq
      have HEQ := Lib.hid heq
      have q0 : wr.cell? ⟨qb, 0, none⟩ = some (.int .i64 0) := KK.out.q.at_ 0
      have q1 : wr.cell? ⟨qb, 1, none⟩ = some (.int .i64 1) := KK.out.q.at_ 1
      have q2 : wr.cell? ⟨qb, 2, none⟩ = some (.int .i64 2) := KK.out.q.at_ 2
      have q3 : wr.cell? ⟨qb, 3, none⟩ = some (.int .i64 C) := KK.out.q.at_ 3
      clear hA heq hrg
      go_wp2_with fail
      (with_reducible refine (HRG.out _).mono ?_)
      rintro e w9 ⟨rfl, hb9⟩
      have K9 := Lib.hid (KK.out.below hb9)
      have K9d := Lib.hid (K9.out.below (below_drew (Below.refl _ _)))
      have y20 : w9.drew.cell? ⟨p, 20, none⟩ = some (.pointer (some ⟨m, 0, none⟩)) := K9d.out.u.e.at20
      have KP := Lib.hid (peek_any K9d.out.u.e.mem (A : Int))
      have KQ := Lib.hid (epeek_any K9d.out.u.f.m (A : Int))
      rw [HEQ.out] at KP
      clear hb9 q0 q1 q2 q3 KK HEQ HRG
      go_wp2_with fail
      go_region_held3 (fun w' => w'.cell? ⟨p, 20, none⟩ = some (.pointer (some ⟨m, 0, none⟩))) ((first | exact y20 | go_keep))
        (first
         | (go_at_call 16
            refine KP.out.mono ?_
            rintro e u ⟨rfl, rfl⟩)
         | (go_at_call 19
            refine KQ.out.mono ?_
            rintro e u ⟨rfl, rfl⟩))
      clear KP KQ y20 K9
      generalize w9.drew = w9d at *
      go_wp2_with fail
      go_roundw
      case rel => exact ⟨j + 1, by omega, by go_num, K9d.out⟩
      case measure => simp [intOf]; omega
    case neg =>
      have hjk : j = K := by omega
      have hnlt : decide ((j : Int) < (K : Int)) = false := decide_eq_false (by omega)
      rcases HCC.out with ⟨rfl, hkc⟩ | ⟨rfl, hkc, rfl, rfl⟩
      · have hb2 : ((K : Int) == (C : Int)) = true := by simp; omega
        have q0 : wr.cell? ⟨qb, 0, none⟩ = some (.int .i64 0) := KK.out.q.at_ 0
        have q1 : wr.cell? ⟨qb, 1, none⟩ = some (.int .i64 1) := KK.out.q.at_ 1
        have q2 : wr.cell? ⟨qb, 2, none⟩ = some (.int .i64 2) := KK.out.q.at_ 2
        have q3 : wr.cell? ⟨qb, 3, none⟩ = some (.int .i64 C) := KK.out.q.at_ 3
        go_wp2_with fail
        (with_reducible refine (oPop_any 0 1 2 C _).mono ?_)
        rintro e w7 ⟨x, rfl, ho, hx, hb7⟩
        have K7 := Lib.hid (KK.out.below hb7)
        have O7 := Lib.hid (And.intro ho (show w4.heap.size ≤ x by have := KK.out.u.f.m.blk.lt; have := KK.out.u.f.hp; omega))
        clear ho hx hb7 q0 q1 q2 q3 KK
        go_wp2_with fail
        (with_reducible refine (alone_popper K7.out.u.e O7.out.1 K7.out.n (popOk1 C (by omega)) R1.out.2.2.1).mono ?_)
        rintro e w8 ⟨rfl, hp8, hf8⟩
        have K8 := Lib.hid (K7.out.done O7.out.1 odd_popper9 (by decide) O7.out.2 hp8 hf8 R1.out.2.2.2)
        clear hp8 hf8 K7 O7
        go_wp2_with fail
        go_loopw [25] (fun i wr => KeR w w4.heap.size p m k g (C + 3) q (bareA ag acap) qb C s2 s K i wr) (fun i _ => K - (intOf i).toNat)
        case atStart => exact ⟨0, by omega, rfl, K8.out⟩
        case round =>
          clear K8
          obtain ⟨j, hj, rfl, hk⟩ := hrel
          have KK := Lib.hid hk
          clear hk
          by_cases hlt : (j : Int) < (K : Int) - 1
          case pos =>
            have hV0 : (0 : Int) ≤ (t2 : Int) + (j : Int) := by omega
            have hV1 : IntKind.u64.wrap ((t2 : Int) + (j : Int)) = (t2 : Int) + (j : Int) := IntWalk.u64_in _ (by omega)
            have hrg := fun W : World => ring_any 0 1 2 C ((t2 : Int) + (j : Int)) hV0 (by omega) W
            rw [show (t2 : Int) + (j : Int) = ((t2 + j : Nat) : Int) by omega, ring_of C (by omega)] at hrg
            rw [show ((t2 + j : Nat) : Int) = (t2 : Int) + (j : Int) by omega] at hrg
            obtain ⟨A, hA⟩ : ∃ A : Nat, 2 + (t2 + j) % C = A := ⟨_, rfl⟩
            rw [hA] at hrg
            have HRG := Lib.hid hrg
            have heq := E2.out j (by omega)
            rw [hA] at heq
            have HEQ := Lib.hid heq
            have q0 : wr.cell? ⟨qb, 0, none⟩ = some (.int .i64 0) := KK.out.q.at_ 0
            have q1 : wr.cell? ⟨qb, 1, none⟩ = some (.int .i64 1) := KK.out.q.at_ 1
            have q2 : wr.cell? ⟨qb, 2, none⟩ = some (.int .i64 2) := KK.out.q.at_ 2
            have q3 : wr.cell? ⟨qb, 3, none⟩ = some (.int .i64 C) := KK.out.q.at_ 3
            clear hA heq hrg
            go_wp2_with fail
            (with_reducible refine (HRG.out _).mono ?_)
            rintro e w9 ⟨rfl, hb9⟩
            have K9 := Lib.hid (KK.out.below hb9)
            have K9d := Lib.hid (K9.out.below (below_drew (Below.refl _ _)))
            have y20 : w9.drew.cell? ⟨p, 20, none⟩ = some (.pointer (some ⟨m, 0, none⟩)) := K9d.out.u.e.at20
            have KP := Lib.hid (peek_any K9d.out.u.e.mem (A : Int))
            have KQ := Lib.hid (epeek_any K9d.out.u.f.m (A : Int))
            rw [HEQ.out] at KP
            clear hb9 q0 q1 q2 q3 KK HEQ HRG
            go_wp2_with fail
            go_region_held3 (fun w' => w'.cell? ⟨p, 20, none⟩ = some (.pointer (some ⟨m, 0, none⟩))) ((first | exact y20 | go_keep))
              (first
               | (go_at_call 16
                  refine KP.out.mono ?_
                  rintro e u ⟨rfl, rfl⟩)
               | (go_at_call 19
                  refine KQ.out.mono ?_
                  rintro e u ⟨rfl, rfl⟩))
            clear KP KQ y20 K9
            generalize w9.drew = w9d at *
            go_wp2_with fail
            go_roundw
            case rel => exact ⟨j + 1, by omega, by go_num, K9d.out⟩
            case measure => simp [intOf]; omega
          case neg =>
            go_wp2
            go_ret
            exact ⟨rfl, KK.out.b⟩
      · have hb2 : ((K : Int) == (C : Int)) = false := by simp; omega
        have q0 : wr.cell? ⟨qb, 0, none⟩ = some (.int .i64 0) := KK.out.q.at_ 0
        have q1 : wr.cell? ⟨qb, 1, none⟩ = some (.int .i64 1) := KK.out.q.at_ 1
        have q2 : wr.cell? ⟨qb, 2, none⟩ = some (.int .i64 2) := KK.out.q.at_ 2
        have q3 : wr.cell? ⟨qb, 3, none⟩ = some (.int .i64 C) := KK.out.q.at_ 3
        go_wp2_with fail
        (with_reducible refine (oPop_any 0 1 2 C _).mono ?_)
        rintro e w7 ⟨x, rfl, ho, hx, hb7⟩
        have K7 := Lib.hid (KK.out.below hb7)
        have O7 := Lib.hid (And.intro ho (show w4.heap.size ≤ x by have := KK.out.u.f.m.blk.lt; have := KK.out.u.f.hp; omega))
        clear ho hx hb7 q0 q1 q2 q3 KK
        go_wp2_with fail
        (with_reducible refine (alone_popper K7.out.u.e O7.out.1 K7.out.n (popOk1 C (by omega)) R1.out.2.2.1).mono ?_)
        rintro e w8 ⟨rfl, hp8, hf8⟩
        have K8 := Lib.hid (K7.out.done O7.out.1 odd_popper9 (by decide) O7.out.2 hp8 hf8 R1.out.2.2.2)
        clear hp8 hf8 K7 O7
        go_wp2_with fail
        go_loopw [25] (fun i wr => KeR w w4.heap.size p m k g (C + 3) q (bareA ag acap) qb C s2 s K i wr) (fun i _ => K - (intOf i).toNat)
        case atStart => exact ⟨0, by omega, rfl, K8.out⟩
        case round =>
          clear K8
          obtain ⟨j, hj, rfl, hk⟩ := hrel
          have KK := Lib.hid hk
          clear hk
          by_cases hlt : (j : Int) < (K : Int) - 1
          case pos =>
            have hV0 : (0 : Int) ≤ (t2 : Int) + (j : Int) := by omega
            have hV1 : IntKind.u64.wrap ((t2 : Int) + (j : Int)) = (t2 : Int) + (j : Int) := IntWalk.u64_in _ (by omega)
            have hrg := fun W : World => ring_any 0 1 2 C ((t2 : Int) + (j : Int)) hV0 (by omega) W
            rw [show (t2 : Int) + (j : Int) = ((t2 + j : Nat) : Int) by omega, ring_of C (by omega)] at hrg
            rw [show ((t2 + j : Nat) : Int) = (t2 : Int) + (j : Int) by omega] at hrg
            obtain ⟨A, hA⟩ : ∃ A : Nat, 2 + (t2 + j) % C = A := ⟨_, rfl⟩
            rw [hA] at hrg
            have HRG := Lib.hid hrg
            have heq := E2.out j (by omega)
            rw [hA] at heq
            have HEQ := Lib.hid heq
            have q0 : wr.cell? ⟨qb, 0, none⟩ = some (.int .i64 0) := KK.out.q.at_ 0
            have q1 : wr.cell? ⟨qb, 1, none⟩ = some (.int .i64 1) := KK.out.q.at_ 1
            have q2 : wr.cell? ⟨qb, 2, none⟩ = some (.int .i64 2) := KK.out.q.at_ 2
            have q3 : wr.cell? ⟨qb, 3, none⟩ = some (.int .i64 C) := KK.out.q.at_ 3
            clear hA heq hrg
            go_wp2_with fail
            (with_reducible refine (HRG.out _).mono ?_)
            rintro e w9 ⟨rfl, hb9⟩
            have K9 := Lib.hid (KK.out.below hb9)
            have K9d := Lib.hid (K9.out.below (below_drew (Below.refl _ _)))
            have y20 : w9.drew.cell? ⟨p, 20, none⟩ = some (.pointer (some ⟨m, 0, none⟩)) := K9d.out.u.e.at20
            have KP := Lib.hid (peek_any K9d.out.u.e.mem (A : Int))
            have KQ := Lib.hid (epeek_any K9d.out.u.f.m (A : Int))
            rw [HEQ.out] at KP
            clear hb9 q0 q1 q2 q3 KK HEQ HRG
            go_wp2_with fail
            go_region_held3 (fun w' => w'.cell? ⟨p, 20, none⟩ = some (.pointer (some ⟨m, 0, none⟩))) ((first | exact y20 | go_keep))
              (first
               | (go_at_call 16
                  refine KP.out.mono ?_
                  rintro e u ⟨rfl, rfl⟩)
               | (go_at_call 19
                  refine KQ.out.mono ?_
                  rintro e u ⟨rfl, rfl⟩))
            clear KP KQ y20 K9
            generalize w9.drew = w9d at *
            go_wp2_with fail
            go_roundw
            case rel => exact ⟨j + 1, by omega, by go_num, K9d.out⟩
            case measure => simp [intOf]; omega
          case neg =>
            go_wp2
            go_ret
            exact ⟨rfl, KK.out.b⟩
end Go.Proofs.Ytplifdmfoeejaaa
