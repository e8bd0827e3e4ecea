/-
  Peek of the reference's environment.
  Package memory: Store.
  A drawn number, and the contract of the reference's Draw.
  workstealmatch.disturb: a cell is changed in both environments. (Written by wip/gen_dist.py.)
  Package clock: Tick.
  Package memory: Load.
-/
import Derived.Test.YtllllbepnnpeeaaGreatEnvB
import Derived.Test.YtllllbepnnpeeaaGreatMgAB
import Derived.Test.YtllllbepnnpeeaaGreatRows
import Derived.WalkKit
import Derived.WalkSpells
import Derived.WalkLawsBesides
import Derived.Test.YtllllbepnnpeeaaGreatDuo
import Derived.Test.YtllllbepnnpeeaaGreatMgAT
import Derived.Test.YtllllbepnnpeeaaGreatMgAC
namespace Go.Proofs.YtllllbepnnpeeaaGreat
open Go Go.RowKit
set_option linter.unusedSimpArgs false

/-- A cell's contents, without an access. -/
theorem epeek_any {w : World} {p : Nat} {a : EnvA} {s : St} (h : EnvM w p a s) (i : Int) :
    Calls Tryz.prog 74 #[.pointer (some ⟨p, 11, none⟩), .int .i64 i] w fun e w' => e = .returned (.int .u64 (s.old i)) ∧ w = w' := by
  have h0 : w.cell? ⟨p, 11, none⟩ = some (.slice (some ⟨a.g, 0, none⟩) s.X.length a.cap) := h.blk.at_ 11
  have hs := h.small
  by_cases hi : s.has i
  · obtain ⟨j, rfl⟩ : ∃ j : Nat, i = (j : Int) := ⟨i.toNat, by have := hi.1; omega⟩
    have hj : j < s.X.length := by have := hi.2; omega
    have hc := h.row.cell hj
    simp only [St.old, if_pos hi, Int.toNat_natCast]
    generalize s.X.getD j 0 = x at *
    have H := ein_yes h hj
    go_enter Tryz.func74, Tryz.ntmps74
    go_wp2_with fail
    refine H.mono ?_
    rintro e w' ⟨rfl, rfl⟩
    go_wp2
    go_ret
    exact ⟨rfl, rfl⟩
  · have H := Lib.hid (ein_no h (St.has_no hi))
    simp only [St.old, if_neg hi]
    go_enter Tryz.func74, Tryz.ntmps74
    go_wp2_with fail
    refine H.out.mono ?_
    rintro e w' ⟨rfl, rfl⟩
    go_wp2
    go_ret
    exact ⟨rfl, rfl⟩
end Go.Proofs.YtllllbepnnpeeaaGreat

namespace Go.Proofs.YtllllbepnnpeeaaGreat
open Go Go.RowKit Go.Shelf

theorem store_fn (x v : Int) (a : Addr) (w : World) (h : w.cell? a = some (.int .u64 v)) : Calls Tryz.prog 63 #[.int .u64 x, .pointer (some a)] w fun e w' => e = .returned (.int .u64 v) ∧ w = w' := by
  go_enter Tryz.func63, Tryz.ntmps63
  go_wp2
  go_ret
  exact ⟨rfl, rfl⟩

theorem store_any {w : World} {p g cap : Nat} {s : St} (h : Mem w p g cap s) (i v : Int) :
    Calls Tryz.prog 40 #[.pointer (some ⟨p, 0, none⟩), .int .i64 i, .int .u64 v] w fun e w' => e = .returned (.tuple #[]) ∧ Mem w' p g cap (s.go 2 i fun _ => v) ∧ Fr [p, g] w w' := by
  have hc : (w.alloc (.cells #[.int .u64 v] 53)).cell? ⟨w.heap.size, 0, none⟩ = some (.int .u64 v) := (Blk.made w 53 #[.int .u64 v]).at_ 0
  have H := access_any (h.alloc (.cells #[.int .u64 v] 53)) 2 i 63 #[.pointer (some ⟨w.heap.size, 0, none⟩)] _ (enters_of Tryz.func63 (by kernel_rfl) rfl) (fun x => store_fn x v _ _ hc)
  generalize s.old i = x at *
  generalize decide (s.has i) = b at *
  go_enter Tryz.func40, Tryz.ntmps40
  go_wp2_with fail
  refine H.mono ?_
  rintro e w' ⟨rfl, hm, hfr⟩
  go_wp2
  go_end0
  exact ⟨rfl, hm, ((Fr.refl _ _).alloc _).trans hfr⟩
end Go.Proofs.YtllllbepnnpeeaaGreat

namespace Go.Proofs.YtllllbepnnpeeaaGreat
open Go Go.RowKit

/-- The number from 0 to n - 1 that differs from d by a multiple of n; 0 if n is less than 1. -/
def drw (d n : Int) : Int := if n < 1 then 0 else if d.tmod n < 0 then d.tmod n + n else d.tmod n
theorem drw_low (d n : Int) (h : n < 1) : drw d n = 0 := if_pos h
theorem drw_neg (d n : Int) (h : ¬ n < 1) (h' : d.tmod n < 0) : drw d n = d.tmod n + n := by rw [drw, if_neg h, if_pos h']
theorem drw_pos (d n : Int) (h : ¬ n < 1) (h' : ¬ d.tmod n < 0) : drw d n = d.tmod n := by rw [drw, if_neg h, if_neg h']
theorem tmod_in (d n : Int) (h : ¬ n < 1) : -n < d.tmod n ∧ d.tmod n < n := by
  have h1 := Int.tmod_lt_of_pos d (show 0 < n by omega)
  have h2 := Int.lt_tmod_of_pos d (show 0 < n by omega)
  omega
theorem drw_in (d n : Int) (h : 1 ≤ n) : 0 ≤ drw d n ∧ drw d n < n := by
  have hr := tmod_in d n (by omega)
  unfold drw
  rw [if_neg (by omega)]
  split <;> omega
theorem drw_self (d n : Int) (h : 0 ≤ d) (h' : d < n) : drw d n = d := by
  unfold drw
  rw [if_neg (by omega), Int.tmod_eq_of_lt h h', if_neg (by omega)]

theorem rdraw_any (d n : Int) (hn : n ≤ 9223372036854775807) (w : World) :
    Calls Tryz.prog 24 #[.int .i64 d, .int .i64 n] w fun e w' => e = .returned (.int .i64 (drw d n)) ∧ w = w' := by
  by_cases h : n < 1
  · rw [drw_low d n h]
    clear hn
    go_enter Tryz.func24, Tryz.ntmps24
    go_wp2
    go_ret
    exact ⟨rfl, rfl⟩
  · have hr := tmod_in d n h
    by_cases h' : d.tmod n < 0
    · rw [drw_neg d n h h']
      generalize hg : d.tmod n = r at *
      go_enter Tryz.func24, Tryz.ntmps24
      go_wp2
      go_ret
      exact ⟨rfl, rfl⟩
    · rw [drw_pos d n h h']
      generalize hg : d.tmod n = r at *
      have h'' : 0 ≤ r := by omega
      go_enter Tryz.func24, Tryz.ntmps24
      go_wp2
      go_ret
      exact ⟨rfl, rfl⟩
end Go.Proofs.YtllllbepnnpeeaaGreat

namespace Go.Proofs.YtllllbepnnpeeaaGreat
open Go Go.RowKit Go.Shelf
set_option linter.unusedSimpArgs false
set_option linter.unusedVariables false

section
variable {w : World} {B p m k g cap : Nat} {hd : List Value} {rv ev : Value} {q : Nat} {a : EnvA} {s : St} {t d : Int} {es es2 : List Ev} {rs rs2 : List Rec}
/-- What disturb gives. -/
def DistD (w : World) (B p m k g cap : Nat) (hd : List Value) (rv ev : Value) (q : Nat) (a : EnvA) (s : St) (t d : Int) (es es2 : List Ev) (rs rs2 : List Rec) (e : Ending) (w' : World) : Prop :=
  ∃ s', e = .returned (.tuple #[]) ∧ Duo w' B p m k g cap hd rv ev q a s' s' t d es es2 rs rs2 ∧ s'.N ∧ s.c ≤ s'.c ∧ s'.c ≤ s.c + 1 ∧ Fr [m, g, q, a.g] w w'
theorem dist_end {w' w2 : World} (hn : s.N) (hc : 0 ≤ s.c ∧ s.c < 1000000) {j : Nat} (hj : j < s.X.length) {u : Int} (hu : 0 ≤ u) (h : Duo w' B p m k g cap hd rv ev q a (s.go 2 j (fun _ => u)) (s.acc 2 j u) t d es es2 rs rs2) (hf : Fr [m, g, q, a.g] w w') :
    DistD w B p m k g cap hd rv ev q a s t d es es2 rs rs2 (.returned (.tuple #[])) w' := by
  have hgo : s.go 2 j (fun _ => u) = s.acc 2 j u := by
    unfold St.go
    rw [if_pos (show s.has (j : Int) from ⟨by omega, by omega⟩), Int.toNat_natCast]
  rw [← hgo] at h
  have h1 := go_c (s := s) 2 j (fun _ => u) hc
  exact ⟨_, rfl, h, go_N hn _ _ _ (fun _ _ => hu), h1.1, h1.2, hf⟩

set_option maxRecDepth 100000 in
set_option maxHeartbeats 4000000 in
theorem disturb_p (h : Duo w B p m k g cap hd rv ev q a s s t d es es2 rs rs2) (hn : s.N) (hc : 0 ≤ s.c ∧ s.c < 1000000) (x y : Int) (hL : 0 < s.X.length) (hd4 : drw (wrap64 (y.tdiv 6)) 4 = 0) :
    Calls Tryz.prog 46 #[.pointer (some ⟨p, 0, none⟩), .pointer (some ⟨q, 0, none⟩), .int .i64 x, .int .i64 y] w (DistD w B p m k g cap hd rv ev q a s t d es es2 rs rs2) := by
  have hsm := h.f.m.small
  have hdr := drw_in x s.X.length (by omega)
  obtain ⟨j, hj⟩ : ∃ j : Nat, drw x s.X.length = (j : Int) := ⟨(drw x s.X.length).toNat, by omega⟩
  obtain ⟨L, hLL⟩ : ∃ L, s.X.length = L := ⟨_, rfl⟩
  have e11 : w.cell? ⟨q, 11, none⟩ = some (.slice (some ⟨a.g, 0, none⟩) L a.cap) := by rw [← hLL]; exact h.f.m.blk.at_ 11
  have hjl : j < L := by omega
  have D0 := Lib.hid h
  have HN := Lib.hid (And.intro hn hc)
  rw [hLL] at hj hL hsm
  have HL := Lib.hid (And.intro hLL (And.intro hj hjl))
  have R1 := Lib.hid (fun W : World => rdraw_any x L (by omega) W)
  have R2 := Lib.hid (fun W : World => rdraw_any y 6 (by omega) W)
  have R3 := Lib.hid (fun W : World => rdraw_any (wrap64 (y.tdiv 6)) 4 (by omega) W)
  have hL0 : ((L : Int) == 0) = false := by simp; omega
  obtain ⟨z6, hz6⟩ : ∃ z, drw y 6 = z := ⟨_, rfl⟩
  rw [hj] at R1
  rw [hz6] at R2
  have HZ := Lib.hid hz6
  clear h hn hc hdr hjl hz6 hLL hj
  rw [hd4] at R3
  clear hd4
  go_enter Tryz.func46, Tryz.ntmps46
  go_wp2_with fail
  (with_reducible refine (R1.out _).mono ?_)
  rintro e w1 ⟨rfl, rfl⟩
  go_wp2_with fail
  (with_reducible refine (R2.out _).mono ?_)
  rintro e w1 ⟨rfl, rfl⟩
  go_wp2_with fail
  (with_reducible refine (R3.out _).mono ?_)
  rintro e w1 ⟨rfl, rfl⟩
  go_wp2_with fail
  (with_reducible refine (epeek_any D0.out.f.m _).mono ?_)
  rintro e w1 ⟨rfl, rfl⟩
  generalize hod : s.old (j : Int) = od at *
  go_wp2_with fail
  (with_reducible refine (eacc_store D0.out.f.m (j := j) (by rw [HL.out.1]; exact HL.out.2.2) (IntKind.u64.wrap (od + 1)) 0).mono ?_)
  rintro e w2 ⟨rfl, hm, hf⟩
  have D2 := Lib.hid (D0.out.racc hm hf)
  have F2 := Lib.hid hf
  have e20 : w2.cell? ⟨p, 20, none⟩ = some (.pointer (some ⟨m, 0, none⟩)) := D2.out.e.at20
  clear hm hf e11 R1 R2 R3
  go_wp2_with fail
  (with_reducible refine (store_any D2.out.e.mem _ _).mono ?_)
  rintro e w3 ⟨rfl, hm, hf⟩
  have D3 := Lib.hid (D2.out.pacc hm hf)
  have F3 := Lib.hid ((F2.out.mono (T := [m, g, q, a.g]) (by simp)).trans (hf.mono (by simp)))
  clear hm hf e20 D2 F2
  go_wp2
  go_end0
  exact dist_end (w2 := w) HN.out.1 HN.out.2 (by rw [HL.out.1]; exact HL.out.2.2) (u64_nn _) D3.out F3.out
set_option maxRecDepth 100000 in
set_option maxHeartbeats 4000000 in
theorem disturb_m (h : Duo w B p m k g cap hd rv ev q a s s t d es es2 rs rs2) (hn : s.N) (hc : 0 ≤ s.c ∧ s.c < 1000000) (x y : Int) (hL : 0 < s.X.length) (hd4 : drw (wrap64 (y.tdiv 6)) 4 = 1) :
    Calls Tryz.prog 46 #[.pointer (some ⟨p, 0, none⟩), .pointer (some ⟨q, 0, none⟩), .int .i64 x, .int .i64 y] w (DistD w B p m k g cap hd rv ev q a s t d es es2 rs rs2) := by
  have hsm := h.f.m.small
  have hdr := drw_in x s.X.length (by omega)
  obtain ⟨j, hj⟩ : ∃ j : Nat, drw x s.X.length = (j : Int) := ⟨(drw x s.X.length).toNat, by omega⟩
  obtain ⟨L, hLL⟩ : ∃ L, s.X.length = L := ⟨_, rfl⟩
  have e11 : w.cell? ⟨q, 11, none⟩ = some (.slice (some ⟨a.g, 0, none⟩) L a.cap) := by rw [← hLL]; exact h.f.m.blk.at_ 11
  have hjl : j < L := by omega
  have D0 := Lib.hid h
  have HN := Lib.hid (And.intro hn hc)
  rw [hLL] at hj hL hsm
  have HL := Lib.hid (And.intro hLL (And.intro hj hjl))
  have R1 := Lib.hid (fun W : World => rdraw_any x L (by omega) W)
  have R2 := Lib.hid (fun W : World => rdraw_any y 6 (by omega) W)
  have R3 := Lib.hid (fun W : World => rdraw_any (wrap64 (y.tdiv 6)) 4 (by omega) W)
  have hL0 : ((L : Int) == 0) = false := by simp; omega
  obtain ⟨z6, hz6⟩ : ∃ z, drw y 6 = z := ⟨_, rfl⟩
  rw [hj] at R1
  rw [hz6] at R2
  have HZ := Lib.hid hz6
  clear h hn hc hdr hjl hz6 hLL hj
  rw [hd4] at R3
  clear hd4
  go_enter Tryz.func46, Tryz.ntmps46
  go_wp2_with fail
  (with_reducible refine (R1.out _).mono ?_)
  rintro e w1 ⟨rfl, rfl⟩
  go_wp2_with fail
  (with_reducible refine (R2.out _).mono ?_)
  rintro e w1 ⟨rfl, rfl⟩
  go_wp2_with fail
  (with_reducible refine (R3.out _).mono ?_)
  rintro e w1 ⟨rfl, rfl⟩
  go_wp2_with fail
  (with_reducible refine (epeek_any D0.out.f.m _).mono ?_)
  rintro e w1 ⟨rfl, rfl⟩
  generalize hod : s.old (j : Int) = od at *
  go_wp2_with fail
  (with_reducible refine (eacc_store D0.out.f.m (j := j) (by rw [HL.out.1]; exact HL.out.2.2) (IntKind.u64.wrap (od - 1)) 0).mono ?_)
  rintro e w2 ⟨rfl, hm, hf⟩
  have D2 := Lib.hid (D0.out.racc hm hf)
  have F2 := Lib.hid hf
  have e20 : w2.cell? ⟨p, 20, none⟩ = some (.pointer (some ⟨m, 0, none⟩)) := D2.out.e.at20
  clear hm hf e11 R1 R2 R3
  go_wp2_with fail
  (with_reducible refine (store_any D2.out.e.mem _ _).mono ?_)
  rintro e w3 ⟨rfl, hm, hf⟩
  have D3 := Lib.hid (D2.out.pacc hm hf)
  have F3 := Lib.hid ((F2.out.mono (T := [m, g, q, a.g]) (by simp)).trans (hf.mono (by simp)))
  clear hm hf e20 D2 F2
  go_wp2
  go_end0
  exact dist_end (w2 := w) HN.out.1 HN.out.2 (by rw [HL.out.1]; exact HL.out.2.2) (u64_nn _) D3.out F3.out
set_option maxRecDepth 100000 in
set_option maxHeartbeats 4000000 in
theorem disturb_n (h : Duo w B p m k g cap hd rv ev q a s s t d es es2 rs rs2) (hn : s.N) (hc : 0 ≤ s.c ∧ s.c < 1000000) (x y : Int) (hL : 0 < s.X.length) (hd4 : drw (wrap64 (y.tdiv 6)) 4 ≠ 0) (hd5 : drw (wrap64 (y.tdiv 6)) 4 ≠ 1) :
    Calls Tryz.prog 46 #[.pointer (some ⟨p, 0, none⟩), .pointer (some ⟨q, 0, none⟩), .int .i64 x, .int .i64 y] w (DistD w B p m k g cap hd rv ev q a s t d es es2 rs rs2) := by
  have hsm := h.f.m.small
  have hdr := drw_in x s.X.length (by omega)
  obtain ⟨j, hj⟩ : ∃ j : Nat, drw x s.X.length = (j : Int) := ⟨(drw x s.X.length).toNat, by omega⟩
  obtain ⟨L, hLL⟩ : ∃ L, s.X.length = L := ⟨_, rfl⟩
  have e11 : w.cell? ⟨q, 11, none⟩ = some (.slice (some ⟨a.g, 0, none⟩) L a.cap) := by rw [← hLL]; exact h.f.m.blk.at_ 11
  have hjl : j < L := by omega
  have D0 := Lib.hid h
  have HN := Lib.hid (And.intro hn hc)
  rw [hLL] at hj hL hsm
  have HL := Lib.hid (And.intro hLL (And.intro hj hjl))
  have R1 := Lib.hid (fun W : World => rdraw_any x L (by omega) W)
  have R2 := Lib.hid (fun W : World => rdraw_any y 6 (by omega) W)
  have R3 := Lib.hid (fun W : World => rdraw_any (wrap64 (y.tdiv 6)) 4 (by omega) W)
  have hL0 : ((L : Int) == 0) = false := by simp; omega
  obtain ⟨z6, hz6⟩ : ∃ z, drw y 6 = z := ⟨_, rfl⟩
  rw [hj] at R1
  rw [hz6] at R2
  have HZ := Lib.hid hz6
  clear h hn hc hdr hjl hz6 hLL hj
  obtain ⟨z4, hz4⟩ : ∃ z, drw (wrap64 (y.tdiv 6)) 4 = z := ⟨_, rfl⟩
  rw [hz4] at hd4 hd5 R3
  have b0 : (z4 == 0) = false := by simpa using hd4
  have b1 : (z4 == 1) = false := by simpa using hd5
  clear hd4 hd5 hz4
  go_enter Tryz.func46, Tryz.ntmps46
  go_wp2_with fail
  (with_reducible refine (R1.out _).mono ?_)
  rintro e w1 ⟨rfl, rfl⟩
  go_wp2_with fail
  (with_reducible refine (R2.out _).mono ?_)
  rintro e w1 ⟨rfl, rfl⟩
  go_wp2_with fail
  (with_reducible refine (R3.out _).mono ?_)
  rintro e w1 ⟨rfl, rfl⟩
  go_wp2_with fail
  (with_reducible refine (eacc_store D0.out.f.m (j := j) (by rw [HL.out.1]; exact HL.out.2.2) (IntKind.u64.wrap z6) 0).mono ?_)
  rintro e w2 ⟨rfl, hm, hf⟩
  have D2 := Lib.hid (D0.out.racc hm hf)
  have F2 := Lib.hid hf
  have e20 : w2.cell? ⟨p, 20, none⟩ = some (.pointer (some ⟨m, 0, none⟩)) := D2.out.e.at20
  clear hm hf e11 R1 R2 R3
  go_wp2_with fail
  (with_reducible refine (store_any D2.out.e.mem _ _).mono ?_)
  rintro e w3 ⟨rfl, hm, hf⟩
  have D3 := Lib.hid (D2.out.pacc hm hf)
  have F3 := Lib.hid ((F2.out.mono (T := [m, g, q, a.g]) (by simp)).trans (hf.mono (by simp)))
  clear hm hf e20 D2 F2
  go_wp2
  go_end0
  exact dist_end (w2 := w) HN.out.1 HN.out.2 (by rw [HL.out.1]; exact HL.out.2.2) (u64_nn _) D3.out F3.out
theorem disturb_any (h : Duo w B p m k g cap hd rv ev q a s s t d es es2 rs rs2) (hn : s.N) (hc : 0 ≤ s.c ∧ s.c < 1000000) (x y : Int) :
    Calls Tryz.prog 46 #[.pointer (some ⟨p, 0, none⟩), .pointer (some ⟨q, 0, none⟩), .int .i64 x, .int .i64 y] w (DistD w B p m k g cap hd rv ev q a s t d es es2 rs rs2) := by
  rcases Nat.eq_zero_or_pos s.X.length with hL | hL
  · have e11 : w.cell? ⟨q, 11, none⟩ = some (.slice (some ⟨a.g, 0, none⟩) s.X.length a.cap) := h.f.m.blk.at_ 11
    rw [hL] at e11
    have D0 := Lib.hid h
    have HN := Lib.hid (And.intro hn hc)
    clear h hn hc hL
    go_enter Tryz.func46, Tryz.ntmps46
    go_wp2
    go_end0
    exact ⟨s, rfl, D0.out, HN.out.1, Int.le_refl _, by omega, Fr.refl _ _⟩
  · by_cases h0 : drw (wrap64 (y.tdiv 6)) 4 = 0
    · exact disturb_p h hn hc x y hL h0
    by_cases h1 : drw (wrap64 (y.tdiv 6)) 4 = 1
    · exact disturb_m h hn hc x y hL h1
    exact disturb_n h hn hc x y hL h0 h1
end
end Go.Proofs.YtllllbepnnpeeaaGreat

namespace Go.Proofs.YtllllbepnnpeeaaGreat
open Go Go.RowKit

theorem tick_any {w : World} {p : Nat} {t d : Int} (h : Clk w p t d) :
    Calls Tryz.prog 47 #[.pointer (some ⟨p, 0, none⟩)] w fun e w' => e = .returned (.tuple #[]) ∧ Clk w' p (wrap64 (t + 1)) d ∧ Fr [p] w w' := by
  have h0 : w.cell? ⟨p, 0, none⟩ = some (.int .i64 t) := Blk.at_ h 0
  have f0 := Blk.free h 0
  go_enter Tryz.func47, Tryz.ntmps47
  go_wp2
  go_end0
  exact ⟨rfl, Blk.put h 0 _, (Fr.refl _ _).setCell (by simp) _⟩
end Go.Proofs.YtllllbepnnpeeaaGreat

namespace Go.Proofs.YtllllbepnnpeeaaGreat
open Go Go.RowKit Go.Shelf

theorem load_fn (x : Int) (w : World) : Calls Tryz.prog 202 #[.int .u64 x] w fun e w' => e = .returned (.int .u64 x) ∧ w = w' := by
  go_enter Tryz.func202, Tryz.ntmps202
  go_wp2
  go_ret
  exact ⟨rfl, rfl⟩

theorem load_any {w : World} {p g cap : Nat} {s : St} (h : Mem w p g cap s) (i : Int) :
    Calls Tryz.prog 200 #[.pointer (some ⟨p, 0, none⟩), .int .i64 i] w fun e w' => e = .returned (.int .u64 (s.old i)) ∧ Mem w' p g cap (s.go 1 i id) ∧ Fr [p, g] w w' := by
  have H := access_any h 1 i 202 #[] id (enters_of Tryz.func202 (by kernel_rfl) rfl) (fun x => load_fn x w)
  generalize s.old i = x at *
  generalize decide (s.has i) = b at *
  go_enter Tryz.func200, Tryz.ntmps200
  go_wp2_with fail
  refine H.mono ?_
  rintro e w' ⟨rfl, hm, hfr⟩
  go_wp2
  go_ret
  exact ⟨rfl, hm, hfr⟩
end Go.Proofs.YtllllbepnnpeeaaGreat
