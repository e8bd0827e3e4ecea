/-
  The contracts of the reference's words (workstealref01) alone. (Taken out of XCallsA .. XCallsD; with ret_int named reti.)
  The reference's enter, for a frame that runs no machine. (Written by wip/gen_step.py.)
  The reference's Step, for a machine with one frame that needs no configuration.
  Rows of the call's own beside other blocks.
-/
import Derived.Test.YtanbjdlaolgepaaGreatMgAG
import Derived.Test.YtanbjdlaolgepaaGreatMgAB
import Derived.WalkSpells
import Derived.Lib.Hide
import Derived.Deep.QuietTactic
import Derived.BigQuiet
import Derived.Outline
import Derived.Test.YtanbjdlaolgepaaGreatMgAF
import Derived.Test.YtanbjdlaolgepaaGreatMgAE
namespace Go.Proofs.YtanbjdlaolgepaaGreat
open Go Go.RowKit

set_option maxHeartbeats 1000000 in
theorem rnth_pos (x : Nat) (n : Int) (hx : x < 18446744073709551616) (h0 : 0 ≤ n) (h1 : n ≤ 9223372036854775807) (w : World) :
    Calls Tryz.prog 143 #[.int .u64 (x : Int), .int .i64 n] w fun e w' => e = .returned (.int .i64 (nthF x 64 n)) ∧ w = w' := by
  obtain ⟨R, hR⟩ : ∃ R, R = nthF x 64 n := ⟨_, rfl⟩
  rw [← hR]
  have HR := Lib.hid hR
  clear hR
  go_enter Tryz.func143, Tryz.ntmps143
  go_wp2
  go_loop [1, 5] (fun m i => ∃ (k : Nat) (c : Int), k ≤ 64 ∧ i = .int .i64 (k : Int) ∧ m = .int .i64 c ∧ 0 ≤ c ∧ c ≤ 9223372036854775807 ∧ Hid (nthF x (64 - k) c = R)) (fun _ i => 64 - (intOf i).toNat)
  case atStart => exact ⟨0, n, by omega, rfl, rfl, h0, h1, Lib.hid HR.out.symm⟩
  case round =>
    obtain ⟨k, c, hk, rfl, rfl, hc0, hc1, HN⟩ := hrel
    by_cases hlt : k < 64
    · have hn := HN.out
      rw [show 64 - k = (63 - k) + 1 by omega, nthF, show 63 - (63 - k) = k by omega] at hn
      have HB := Lib.hid hn
      clear hn
      have HK := Lib.hid (bit_any x k hx hlt w)
      generalize bitB x k = b at HB HK
      cases b
      · have HB2 := Lib.hid (show nthF x (63 - k) c = R from by have := HB.out; simpa using this)
        clear HB
        go_wp2_with (go_at_call 118; refine HK.out.mono ?_; rintro e w' ⟨rfl, rfl⟩)
        go_round
        case rel => exact ⟨k + 1, c, by omega, by go_num, by go_num, hc0, hc1, Lib.hid (by rw [show 64 - (k + 1) = 63 - k by omega]; exact HB2.out)⟩
        case measure => simp [intOf]; omega
      · have HB2 := Lib.hid (show (if c = 0 then (k : Int) else nthF x (63 - k) (c - 1)) = R from by have := HB.out; simpa using this)
        clear HB
        by_cases hz : c = 0
        · subst hz
          go_wp2_with (go_at_call 118; refine HK.out.mono ?_; rintro e w' ⟨rfl, rfl⟩)
          go_ret
          exact ⟨reti (by have := HB2.out; simpa using this), rfl⟩
        · rw [if_neg hz] at HB2
          have hz' : (c == 0) = false := by simpa using hz
          have hpos : 1 ≤ c := by omega
          go_wp2_with (go_at_call 118; refine HK.out.mono ?_; rintro e w' ⟨rfl, rfl⟩)
          go_round
          case rel => exact ⟨k + 1, c - 1, by omega, by go_num, by go_num, by omega, by omega, Lib.hid (by rw [show 64 - (k + 1) = 63 - k by omega]; exact HB2.out)⟩
          case measure => simp [intOf]; omega
    · go_wp2
      go_ret
      exact ⟨reti (by have := HN.out; rw [show 64 - k = 0 by omega] at this; exact this), rfl⟩

set_option maxHeartbeats 1000000 in
theorem rpack_ok (d a t : Int) (h : Keyed d a t) (w : World) :
    Calls Tryz.prog 119 #[.int .i64 d, .int .i64 a, .int .i64 t] w fun e w' => e = .returned (.tuple #[.int .u64 (keyS d a t), .bool true]) ∧ w = w' := by
  obtain ⟨⟨d0, d1⟩, ⟨a0, a1⟩, t0, t1⟩ := h
  have p24 : Hid (∀ w, Calls Tryz.prog 116 #[.int .i64 24] w fun e w' => e = .returned (.int .u64 16777216) ∧ w = w') := Lib.hid (fun w => power_any 24 (by decide) w)
  have p16 : Hid (∀ w, Calls Tryz.prog 116 #[.int .i64 16] w fun e w' => e = .returned (.int .u64 65536) ∧ w = w') := Lib.hid (fun w => power_any 16 (by decide) w)
  have key : (d * 16777216 + a) * 65536 + t = keyS d a t := by unfold keyS; omega
  generalize keyS d a t = k at key ⊢
  go_enter Tryz.func119, Tryz.ntmps119
  go_wp2_with fail
  refine (p24.out _).mono ?_
  rintro e w' ⟨rfl, rfl⟩
  go_wp2_with fail
  refine (p16.out _).mono ?_
  rintro e w' ⟨rfl, rfl⟩
  go_wp2
  go_ret2
  exact ⟨rfl, rfl⟩

set_option maxHeartbeats 1000000 in
theorem rpack_no (d a t : Int) (h : ¬ Keyed d a t) (w : World) :
    Calls Tryz.prog 119 #[.int .i64 d, .int .i64 a, .int .i64 t] w fun e w' => e = .returned (.tuple #[.int .u64 0, .bool false]) ∧ w = w' := by
  unfold Keyed at h
  go_enter Tryz.func119, Tryz.ntmps119
  go_wp2
  all_goals (go_ret2; exact ⟨rfl, rfl⟩)


set_option maxHeartbeats 1000000 in
theorem runpack_any (x : Nat) (hx : x < 18446744073709551616) (w : World) :
    Calls Tryz.prog 121 #[.int .u64 (x : Int)] w fun e w' => ∃ n, e = .returned (.tuple #[.int .i64 ((x : Int) / 1099511627776), .int .i64 ((x : Int) / 65536 % 16777216), .int .i64 ((x : Int) % 65536)]) ∧ w' = w.drewN n := by
  have p40 : Hid (∀ w, Calls Tryz.prog 116 #[.int .i64 40] w fun e w' => e = .returned (.int .u64 1099511627776) ∧ w' = w) := Lib.hid (fun w => (power_any 40 (by decide) w).mono fun e w' h => ⟨h.1, h.2.symm⟩)
  have p24 : Hid (∀ w, Calls Tryz.prog 116 #[.int .i64 24] w fun e w' => e = .returned (.int .u64 16777216) ∧ w' = w) := Lib.hid (fun w => (power_any 24 (by decide) w).mono fun e w' h => ⟨h.1, h.2.symm⟩)
  have p16 : Hid (∀ w, Calls Tryz.prog 116 #[.int .i64 16] w fun e w' => e = .returned (.int .u64 65536) ∧ w' = w) := Lib.hid (fun w => (power_any 16 (by decide) w).mono fun e w' h => ⟨h.1, h.2.symm⟩)
  go_enter Tryz.func121, Tryz.ntmps121
  go_wp2
  go_quiet ((first | (go_at_call 116; with_reducible exact Calls.quiet_of_same (p40.out _)) | (go_at_call 116; with_reducible exact Calls.quiet_of_same (p24.out _)) | (go_at_call 116; with_reducible exact Calls.quiet_of_same (p16.out _))))
  go_wp2
  go_ret3
  exact ⟨nq, rfl, rfl⟩

end Go.Proofs.YtanbjdlaolgepaaGreat

namespace Go.Proofs.YtanbjdlaolgepaaGreat
open Go Go.RowKit
set_option linter.unusedSimpArgs false

/-- The cells of the zero frame. -/
abbrev zfc : Array Value := #[.int .i64 0, .int .i64 0, .int .i64 0, .int .i64 0, .int .i64 0, .int .i64 0, .int .i64 0, .int .i64 0, .int .i64 0, .int .i64 0, .int .i64 0, .int .i64 0, .int .i64 0, .int .u64 0, .int .u64 0, .int .u64 0, .int .u64 0, .slice none 0 0]
/-- Frames that run no machine. -/
def leafK (k : Int) : Prop := (k == 5) = false ∧ (k == 6) = false ∧ (k == 15) = false ∧ (k == 17) = false ∧ (k == 18) = false ∧ (k == 22) = false ∧ (k == 23) = false ∧ (k == 24) = false ∧ (k == 25) = false ∧ (k == 26) = false
theorem Blk.put18 {w : World} {g : Nat} {t : TypeId} (h : Blk w g t zfc) : Blk ((((((((((((((((((w.setCell ⟨g, 0, none⟩ (.int .i64 0)).setCell ⟨g, 1, none⟩ (.int .i64 0)).setCell ⟨g, 2, none⟩ (.int .i64 0)).setCell ⟨g, 3, none⟩ (.int .i64 0)).setCell ⟨g, 4, none⟩ (.int .i64 0)).setCell ⟨g, 5, none⟩ (.int .i64 0)).setCell ⟨g, 6, none⟩ (.int .i64 0)).setCell ⟨g, 7, none⟩ (.int .i64 0)).setCell ⟨g, 8, none⟩ (.int .i64 0)).setCell ⟨g, 9, none⟩ (.int .i64 0)).setCell ⟨g, 10, none⟩ (.int .i64 0)).setCell ⟨g, 11, none⟩ (.int .i64 0)).setCell ⟨g, 12, none⟩ (.int .i64 0)).setCell ⟨g, 13, none⟩ (.int .u64 0)).setCell ⟨g, 14, none⟩ (.int .u64 0)).setCell ⟨g, 15, none⟩ (.int .u64 0)).setCell ⟨g, 16, none⟩ (.int .u64 0)).setCell ⟨g, 17, none⟩ (.slice none 0 0)) g t zfc := by
  have := ((((((((((((((((((h.put 0 (.int .i64 0)).put 1 (.int .i64 0)).put 2 (.int .i64 0)).put 3 (.int .i64 0)).put 4 (.int .i64 0)).put 5 (.int .i64 0)).put 6 (.int .i64 0)).put 7 (.int .i64 0)).put 8 (.int .i64 0)).put 9 (.int .i64 0)).put 10 (.int .i64 0)).put 11 (.int .i64 0)).put 12 (.int .i64 0)).put 13 (.int .u64 0)).put 14 (.int .u64 0)).put 15 (.int .u64 0)).put 16 (.int .u64 0)).put 17 (.slice none 0 0))
  simpa only [List.setIfInBounds_toArray, List.set_cons_zero, List.set_cons_succ] using this
theorem fr18 (w : World) (g : Nat) : Fr [g] w ((((((((((((((((((w.setCell ⟨g, 0, none⟩ (.int .i64 0)).setCell ⟨g, 1, none⟩ (.int .i64 0)).setCell ⟨g, 2, none⟩ (.int .i64 0)).setCell ⟨g, 3, none⟩ (.int .i64 0)).setCell ⟨g, 4, none⟩ (.int .i64 0)).setCell ⟨g, 5, none⟩ (.int .i64 0)).setCell ⟨g, 6, none⟩ (.int .i64 0)).setCell ⟨g, 7, none⟩ (.int .i64 0)).setCell ⟨g, 8, none⟩ (.int .i64 0)).setCell ⟨g, 9, none⟩ (.int .i64 0)).setCell ⟨g, 10, none⟩ (.int .i64 0)).setCell ⟨g, 11, none⟩ (.int .i64 0)).setCell ⟨g, 12, none⟩ (.int .i64 0)).setCell ⟨g, 13, none⟩ (.int .u64 0)).setCell ⟨g, 14, none⟩ (.int .u64 0)).setCell ⟨g, 15, none⟩ (.int .u64 0)).setCell ⟨g, 16, none⟩ (.int .u64 0)).setCell ⟨g, 17, none⟩ (.slice none 0 0)) :=
  (((((((((((((((((((Fr.refl [g] w).setCell (.inl (List.mem_singleton.2 rfl)) _).setCell (.inl (List.mem_singleton.2 rfl)) _).setCell (.inl (List.mem_singleton.2 rfl)) _).setCell (.inl (List.mem_singleton.2 rfl)) _).setCell (.inl (List.mem_singleton.2 rfl)) _).setCell (.inl (List.mem_singleton.2 rfl)) _).setCell (.inl (List.mem_singleton.2 rfl)) _).setCell (.inl (List.mem_singleton.2 rfl)) _).setCell (.inl (List.mem_singleton.2 rfl)) _).setCell (.inl (List.mem_singleton.2 rfl)) _).setCell (.inl (List.mem_singleton.2 rfl)) _).setCell (.inl (List.mem_singleton.2 rfl)) _).setCell (.inl (List.mem_singleton.2 rfl)) _).setCell (.inl (List.mem_singleton.2 rfl)) _).setCell (.inl (List.mem_singleton.2 rfl)) _).setCell (.inl (List.mem_singleton.2 rfl)) _).setCell (.inl (List.mem_singleton.2 rfl)) _).setCell (.inl (List.mem_singleton.2 rfl)) _)
set_option maxRecDepth 100000 in
set_option maxHeartbeats 4000000 in
theorem enter_leaf {w : World} {p g o : Nat} {pre post : List Value} {f : Fra} (hf : FrameP w g o pre post f) (hk : leafK f.kd) :
    Calls Tryz.prog 55 #[.pointer (some ⟨p, 0, none⟩), .pointer (some ⟨g, o, none⟩)] w fun e w' => e = .returned (.tuple #[.agg zfc, .bool false]) ∧ Below w.heap.size w w' := by
  have hB := below_one w (.cells zfc 64)
  have hR := Blk.made w 64 zfc
  have HB := Lib.hid hB
  have HR := Lib.hid hR
  have c0 : (w.alloc (.cells zfc 64)).cell? ⟨g, o, none⟩ = some (.int .i64 f.kd) := (hf.below hB).at_ 0 (by omega)
  obtain ⟨k5, k6, k15, k17, k18, k22, k23, k24, k25, k26⟩ := hk

  have z0 := hR.at_ 0
  have y0 := hR.free 0
  have z1 := hR.at_ 1
  have y1 := hR.free 1
  have z2 := hR.at_ 2
  have y2 := hR.free 2
  have z3 := hR.at_ 3
  have y3 := hR.free 3
  have z4 := hR.at_ 4
  have y4 := hR.free 4
  have z5 := hR.at_ 5
  have y5 := hR.free 5
  have z6 := hR.at_ 6
  have y6 := hR.free 6
  have z7 := hR.at_ 7
  have y7 := hR.free 7
  have z8 := hR.at_ 8
  have y8 := hR.free 8
  have z9 := hR.at_ 9
  have y9 := hR.free 9
  have z10 := hR.at_ 10
  have y10 := hR.free 10
  have z11 := hR.at_ 11
  have y11 := hR.free 11
  have z12 := hR.at_ 12
  have y12 := hR.free 12
  have z13 := hR.at_ 13
  have y13 := hR.free 13
  have z14 := hR.at_ 14
  have y14 := hR.free 14
  have z15 := hR.at_ 15
  have y15 := hR.free 15
  have z16 := hR.at_ 16
  have y16 := hR.free 16
  have z17 := hR.at_ 17
  have y17 := hR.free 17
  clear hf hB hR
  go_enter Tryz.func55, Tryz.ntmps55
  go_upto_region 1 with fail
  generalize w.alloc (.cells zfc 64) = W at *
  go_wp2
  refine bodyPost_ret (results_cell_tmp (P := Tryz.prog) Tryz.results55 _ _ w.heap.size 64 _ (0, 0) _ _ rfl rfl (HR.out.put18) Tryz.underlying64 rfl (by kernel_rfl)) rfl ?_
  exact ⟨rfl, fr_below ((Fr.old HB.out : Fr [] w W).drop (fr18 W w.heap.size) (fun x hx => by simp at hx; omega))⟩
end Go.Proofs.YtanbjdlaolgepaaGreat

namespace Go.Proofs.YtanbjdlaolgepaaGreat
open Go Go.RowKit
set_option linter.unusedSimpArgs false

/-- The cells of a machine. -/
abbrev mcells (g n cap : Nat) (ov : Bool) (cd vl : Int) : Array Value := #[.slice (some ⟨g, 0, none⟩) n cap, .bool ov, .int .i64 cd, .int .i64 vl]
/-- A machine that has one frame. -/
structure Mach1 (B : Nat) (w : World) (m g cap : Nat) (post : List Value) (f : Fra) : Prop where
  blk : Blk w m 100 (mcells g 1 cap false 0 0)
  fr : FrameP w g 0 [] post f
  bm : B ≤ m
  bg : B ≤ g
  hc : 1 ≤ cap ∧ cap ≤ 1000000
/-- What Step gives. -/
def Stepped (B p m g cap : Nat) (post : List Value) (a : EnvA) (s' : St) (f' : Fra) (r : Res) (es : List Ev) (rs : List Rec) (w : World) (e : Ending) (w' : World) : Prop :=
  ∃ v, e = .returned (.bool r.dn) ∧ EnvF B w' p { a with ev := v } s' es rs ∧ FrameP w' g 0 [] post f' ∧ Blk w' m 100 (if r.dn then mcells g 0 cap true r.cd r.vl else mcells g 1 cap false 0 0) ∧
    Fr (m :: g :: a.S p) w w' ∧ ∀ k, v.ownBlock = some k → a.ev.ownBlock = some k ∨ w.heap.size ≤ k

/-- Behind enter. -/
def Entered (w : World) (s6 : Value) (wx : World) : Prop := s6 = .bool false ∧ Below w.heap.size w wx
/-- Behind leaf. -/
def Leafed (B p m g cap : Nat) (post : List Value) (a : EnvA) (s' : St) (f' : Fra) (r : Res) (es : List Ev) (rs : List Rec) (w : World) (s7 : Value) (wx : World) : Prop :=
  ∃ (rb : Nat) (v : Value), s7 = .pointer (some ⟨rb, 0, none⟩) ∧ EnvF B wx p { a with ev := v } s' es rs ∧ FrameP wx g 0 [] post f' ∧ Blk wx m 100 (mcells g 1 cap false 0 0) ∧ Blk wx rb 140 (rcells' r) ∧
    Fr (g :: a.S p) w wx ∧ (∀ k, v.ownBlock = some k → a.ev.ownBlock = some k ∨ w.heap.size ≤ k)
theorem fr_row8 (w : World) (g : Nat) (cs : Array Value) : Fr [g] w (w.setRow g cs) := ⟨rfl, rfl, rfl, by simp, fun k _ hn => setRow_other w g k cs (fun e => hn (by simp [e]))⟩
theorem res_one (r : Res) : (rcells' r).all (·.oneCell') = true := by kernel_rfl
theorem not_in_S {B p m : Nat} {a : EnvA} {w : World} {s : St} {es : List Ev} {rs : List Rec} (he : EnvF B w p a s es rs) {cs : Array Value} {t : TypeId} (hm : Blk w m t cs) (h1 : t ≠ 53) (h2 : t ≠ 46) (h3 : t ≠ 163) (h4 : t ≠ 119) : m ∉ a.S p := by
  intro hx
  obtain ⟨ks, _, hrow, _⟩ := he.rc
  obtain ⟨cur, hb, _⟩ := he.m.row.blk
  simp only [EnvA.S, List.mem_cons, List.mem_append, Option.mem_toList] at hx
  rcases hx with hx | hx | hx | hx
  · exact hm.apart he.m.blk h1 hx
  · exact hm.apart hb h2 hx
  · exact row_apart he.ev hm (fun e => h3 e.symm) m hx rfl
  · exact row_apart hrow hm (fun e => h4 e.symm) m hx rfl

end Go.Proofs.YtanbjdlaolgepaaGreat

namespace Go.Proofs.YtanbjdlaolgepaaGreat
open Go Go.RowKit
set_option linter.unusedSimpArgs false

theorem ty_at {w : World} {k : Nat} {t t' : TypeId} {cs cs' : Array Value} (h : Blk w k t cs) (h' : w.heap[k]? = some (Obj.cells cs' t' (0, 0))) : t = t' := by
  unfold Blk at h
  rw [h] at h'
  simp only [Option.some.injEq, Obj.cells.injEq] at h'
  exact h'.2.1
theorem row_frS {w w' : World} {S : List Nat} {base : Nat} {t : TypeId} {s : Nat} {v : Value} {n : Nat} {vs : List Value} (h : w.ownsRow base t s v n vs) (hf : Fr S w w') (hn : ∀ k, v.ownBlock = some k → k ∉ S) : w'.ownsRow base t s v n vs :=
  row_same h (fun k hk => hf.block k (World.ownsRow.lt h k hk).2 (hn k hk))
end Go.Proofs.YtanbjdlaolgepaaGreat
