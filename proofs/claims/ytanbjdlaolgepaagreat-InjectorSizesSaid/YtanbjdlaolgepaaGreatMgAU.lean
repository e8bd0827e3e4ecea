/-
  workstealmatch.disturb: a cell is changed in both environments. (Written by wip/gen_dist.py.)
  The cells of the program's environment ahead of its pointers. No function is named but Bare's.
  Bytes that lie below a block, as a list of numbers; eleven cells stored. No function of the program is named.
-/
import Derived.Test.YtanbjdlaolgepaaGreatDuo
import Derived.Test.YtanbjdlaolgepaaGreatMgAT
import Derived.Test.YtanbjdlaolgepaaGreatMgAG
import Derived.Test.YtanbjdlaolgepaaGreatMgAO
import Derived.Test.YtanbjdlaolgepaaGreatMgAB
import Derived.Test.YtanbjdlaolgepaaGreatCfOwn
namespace Go.Proofs.YtanbjdlaolgepaaGreat
open Go Go.RowKit Go.Shelf
set_option linter.unusedSimpArgs false
set_option linter.unusedVariables false

section
variable {w : World} {B p m k g cap : Nat} {hd : List Value} {rv ev : Value} {q : Nat} {a : EnvA} {s : St} {t d : Int} {es es2 : List Ev} {rs rs2 : List Rec}
/-- .. and what more of the memory. -/
def DistX (w : World) (B p m k g cap : Nat) (hd : List Value) (rv ev : Value) (q : Nat) (a : EnvA) (s : St) (t d : Int) (es es2 : List Ev) (rs rs2 : List Rec) (e : Ending) (w' : World) : Prop :=
  ∃ s', e = .returned (.tuple #[]) ∧ Duo w' B p m k g cap hd rv ev q a s' s' t d es es2 rs rs2 ∧ s'.N ∧ s.c ≤ s'.c ∧ s'.c ≤ s.c + 1 ∧ Fr [m, g, q, a.g] w w' ∧ (s.U → s'.U) ∧ s'.X.length = s.X.length
theorem dist_end {w' w2 : World} (hn : s.N) (hc : 0 ≤ s.c ∧ s.c < 1000000) {j : Nat} (hj : j < s.X.length) {u : Int} (hu : uw u) (h : Duo w' B p m k g cap hd rv ev q a (s.go 2 j (fun _ => u)) (s.acc 2 j u) t d es es2 rs rs2) (hf : Fr [m, g, q, a.g] w w') :
    DistX w B p m k g cap hd rv ev q a s t d es es2 rs rs2 (.returned (.tuple #[])) w' := by
  have hgo : s.go 2 j (fun _ => u) = s.acc 2 j u := by
    unfold St.go
    rw [if_pos (show s.has (j : Int) from ⟨by omega, by omega⟩), Int.toNat_natCast]
  rw [← hgo] at h
  have h1 := go_c (s := s) 2 j (fun _ => u) hc
  exact ⟨_, rfl, h, go_N hn _ _ _ (fun _ _ => hu.1), h1.1, h1.2, hf, fun hU => go_U hU _ _ _ (fun _ _ => hu), go_len _ _ _ _⟩

set_option maxRecDepth 100000 in
set_option maxHeartbeats 4000000 in
theorem disturb_p (h : Duo w B p m k g cap hd rv ev q a s s t d es es2 rs rs2) (hn : s.N) (hc : 0 ≤ s.c ∧ s.c < 1000000) (x y : Int) (hL : 0 < s.X.length) (hd4 : drw (wrap64 (y.tdiv 6)) 4 = 0) :
    Calls Tryz.prog 23 #[.pointer (some ⟨p, 0, none⟩), .pointer (some ⟨q, 0, none⟩), .int .i64 x, .int .i64 y] w (DistX w B p m k g cap hd rv ev q a s t d es es2 rs rs2) := by
  have hsm := h.f.m.small
  have hdr := drw_in x s.X.length (by omega)
  obtain ⟨j, hj⟩ : ∃ j : Nat, drw x s.X.length = (j : Int) := ⟨(drw x s.X.length).toNat, by omega⟩
  obtain ⟨L, hLL⟩ : ∃ L, s.X.length = L := ⟨_, rfl⟩
  have e11 : w.cell? ⟨q, 11, none⟩ = some (.slice (some ⟨a.g, 0, none⟩) L a.cap) := by rw [← hLL]; exact h.f.m.blk.at_ 11
  have hjl : j < L := by omega
  have D0 := Lib.hid h
  have HN := Lib.hid (And.intro hn hc)
  rw [hLL] at hj hL hsm
  have HL := Lib.hid (And.intro hLL (And.intro hj hjl))
  have R1 := Lib.hid (fun W : World => rdraw_any x L (by omega) W)
  have R2 := Lib.hid (fun W : World => rdraw_any y 6 (by omega) W)
  have R3 := Lib.hid (fun W : World => rdraw_any (wrap64 (y.tdiv 6)) 4 (by omega) W)
  have hL0 : ((L : Int) == 0) = false := by simp; omega
  obtain ⟨z6, hz6⟩ : ∃ z, drw y 6 = z := ⟨_, rfl⟩
  rw [hj] at R1
  rw [hz6] at R2
  have HZ := Lib.hid hz6
  clear h hn hc hdr hjl hz6 hLL hj
  rw [hd4] at R3
  clear hd4
  go_enter Tryz.func23, Tryz.ntmps23
  go_wp2_with fail
  (with_reducible refine (R1.out _).mono ?_)
  rintro e w1 ⟨rfl, rfl⟩
  go_wp2_with fail
  (with_reducible refine (R2.out _).mono ?_)
  rintro e w1 ⟨rfl, rfl⟩
  go_wp2_with fail
  (with_reducible refine (R3.out _).mono ?_)
  rintro e w1 ⟨rfl, rfl⟩
  go_wp2_with fail
  (with_reducible refine (epeek_any D0.out.f.m _).mono ?_)
  rintro e w1 ⟨rfl, rfl⟩
  generalize hod : s.old (j : Int) = od at *
  go_wp2_with fail
  (with_reducible refine (eacc_store D0.out.f.m (j := j) (by rw [HL.out.1]; exact HL.out.2.2) (IntKind.u64.wrap (od + 1)) 0).mono ?_)
  rintro e w2 ⟨rfl, hm, hf⟩
  have D2 := Lib.hid (D0.out.racc hm hf)
  have F2 := Lib.hid hf
  have e20 : w2.cell? ⟨p, 20, none⟩ = some (.pointer (some ⟨m, 0, none⟩)) := D2.out.e.at20
  clear hm hf e11 R1 R2 R3
  go_wp2_with fail
  (with_reducible refine (store_any D2.out.e.mem _ _).mono ?_)
  rintro e w3 ⟨rfl, hm, hf⟩
  have D3 := Lib.hid (D2.out.pacc hm hf)
  have F3 := Lib.hid ((F2.out.mono (T := [m, g, q, a.g]) (by simp)).trans (hf.mono (by simp)))
  clear hm hf e20 D2 F2
  go_wp2
  go_end0
  exact dist_end (w2 := w) HN.out.1 HN.out.2 (by rw [HL.out.1]; exact HL.out.2.2) (uw_wrap _) D3.out F3.out
set_option maxRecDepth 100000 in
set_option maxHeartbeats 4000000 in
theorem disturb_m (h : Duo w B p m k g cap hd rv ev q a s s t d es es2 rs rs2) (hn : s.N) (hc : 0 ≤ s.c ∧ s.c < 1000000) (x y : Int) (hL : 0 < s.X.length) (hd4 : drw (wrap64 (y.tdiv 6)) 4 = 1) :
    Calls Tryz.prog 23 #[.pointer (some ⟨p, 0, none⟩), .pointer (some ⟨q, 0, none⟩), .int .i64 x, .int .i64 y] w (DistX w B p m k g cap hd rv ev q a s t d es es2 rs rs2) := by
  have hsm := h.f.m.small
  have hdr := drw_in x s.X.length (by omega)
  obtain ⟨j, hj⟩ : ∃ j : Nat, drw x s.X.length = (j : Int) := ⟨(drw x s.X.length).toNat, by omega⟩
  obtain ⟨L, hLL⟩ : ∃ L, s.X.length = L := ⟨_, rfl⟩
  have e11 : w.cell? ⟨q, 11, none⟩ = some (.slice (some ⟨a.g, 0, none⟩) L a.cap) := by rw [← hLL]; exact h.f.m.blk.at_ 11
  have hjl : j < L := by omega
  have D0 := Lib.hid h
  have HN := Lib.hid (And.intro hn hc)
  rw [hLL] at hj hL hsm
  have HL := Lib.hid (And.intro hLL (And.intro hj hjl))
  have R1 := Lib.hid (fun W : World => rdraw_any x L (by omega) W)
  have R2 := Lib.hid (fun W : World => rdraw_any y 6 (by omega) W)
  have R3 := Lib.hid (fun W : World => rdraw_any (wrap64 (y.tdiv 6)) 4 (by omega) W)
  have hL0 : ((L : Int) == 0) = false := by simp; omega
  obtain ⟨z6, hz6⟩ : ∃ z, drw y 6 = z := ⟨_, rfl⟩
  rw [hj] at R1
  rw [hz6] at R2
  have HZ := Lib.hid hz6
  clear h hn hc hdr hjl hz6 hLL hj
  rw [hd4] at R3
  clear hd4
  go_enter Tryz.func23, Tryz.ntmps23
  go_wp2_with fail
  (with_reducible refine (R1.out _).mono ?_)
  rintro e w1 ⟨rfl, rfl⟩
  go_wp2_with fail
  (with_reducible refine (R2.out _).mono ?_)
  rintro e w1 ⟨rfl, rfl⟩
  go_wp2_with fail
  (with_reducible refine (R3.out _).mono ?_)
  rintro e w1 ⟨rfl, rfl⟩
  go_wp2_with fail
  (with_reducible refine (epeek_any D0.out.f.m _).mono ?_)
  rintro e w1 ⟨rfl, rfl⟩
  generalize hod : s.old (j : Int) = od at *
  go_wp2_with fail
  (with_reducible refine (eacc_store D0.out.f.m (j := j) (by rw [HL.out.1]; exact HL.out.2.2) (IntKind.u64.wrap (od - 1)) 0).mono ?_)
  rintro e w2 ⟨rfl, hm, hf⟩
  have D2 := Lib.hid (D0.out.racc hm hf)
  have F2 := Lib.hid hf
  have e20 : w2.cell? ⟨p, 20, none⟩ = some (.pointer (some ⟨m, 0, none⟩)) := D2.out.e.at20
  clear hm hf e11 R1 R2 R3
  go_wp2_with fail
  (with_reducible refine (store_any D2.out.e.mem _ _).mono ?_)
  rintro e w3 ⟨rfl, hm, hf⟩
  have D3 := Lib.hid (D2.out.pacc hm hf)
  have F3 := Lib.hid ((F2.out.mono (T := [m, g, q, a.g]) (by simp)).trans (hf.mono (by simp)))
  clear hm hf e20 D2 F2
  go_wp2
  go_end0
  exact dist_end (w2 := w) HN.out.1 HN.out.2 (by rw [HL.out.1]; exact HL.out.2.2) (uw_wrap _) D3.out F3.out
set_option maxRecDepth 100000 in
set_option maxHeartbeats 4000000 in
theorem disturb_n (h : Duo w B p m k g cap hd rv ev q a s s t d es es2 rs rs2) (hn : s.N) (hc : 0 ≤ s.c ∧ s.c < 1000000) (x y : Int) (hL : 0 < s.X.length) (hd4 : drw (wrap64 (y.tdiv 6)) 4 ≠ 0) (hd5 : drw (wrap64 (y.tdiv 6)) 4 ≠ 1) :
    Calls Tryz.prog 23 #[.pointer (some ⟨p, 0, none⟩), .pointer (some ⟨q, 0, none⟩), .int .i64 x, .int .i64 y] w (DistX w B p m k g cap hd rv ev q a s t d es es2 rs rs2) := by
  have hsm := h.f.m.small
  have hdr := drw_in x s.X.length (by omega)
  obtain ⟨j, hj⟩ : ∃ j : Nat, drw x s.X.length = (j : Int) := ⟨(drw x s.X.length).toNat, by omega⟩
  obtain ⟨L, hLL⟩ : ∃ L, s.X.length = L := ⟨_, rfl⟩
  have e11 : w.cell? ⟨q, 11, none⟩ = some (.slice (some ⟨a.g, 0, none⟩) L a.cap) := by rw [← hLL]; exact h.f.m.blk.at_ 11
  have hjl : j < L := by omega
  have D0 := Lib.hid h
  have HN := Lib.hid (And.intro hn hc)
  rw [hLL] at hj hL hsm
  have HL := Lib.hid (And.intro hLL (And.intro hj hjl))
  have R1 := Lib.hid (fun W : World => rdraw_any x L (by omega) W)
  have R2 := Lib.hid (fun W : World => rdraw_any y 6 (by omega) W)
  have R3 := Lib.hid (fun W : World => rdraw_any (wrap64 (y.tdiv 6)) 4 (by omega) W)
  have hL0 : ((L : Int) == 0) = false := by simp; omega
  obtain ⟨z6, hz6⟩ : ∃ z, drw y 6 = z := ⟨_, rfl⟩
  rw [hj] at R1
  rw [hz6] at R2
  have HZ := Lib.hid hz6
  clear h hn hc hdr hjl hz6 hLL hj
  obtain ⟨z4, hz4⟩ : ∃ z, drw (wrap64 (y.tdiv 6)) 4 = z := ⟨_, rfl⟩
  rw [hz4] at hd4 hd5 R3
  have b0 : (z4 == 0) = false := by simpa using hd4
  have b1 : (z4 == 1) = false := by simpa using hd5
  clear hd4 hd5 hz4
  go_enter Tryz.func23, Tryz.ntmps23
  go_wp2_with fail
  (with_reducible refine (R1.out _).mono ?_)
  rintro e w1 ⟨rfl, rfl⟩
  go_wp2_with fail
  (with_reducible refine (R2.out _).mono ?_)
  rintro e w1 ⟨rfl, rfl⟩
  go_wp2_with fail
  (with_reducible refine (R3.out _).mono ?_)
  rintro e w1 ⟨rfl, rfl⟩
  go_wp2_with fail
  (with_reducible refine (eacc_store D0.out.f.m (j := j) (by rw [HL.out.1]; exact HL.out.2.2) (IntKind.u64.wrap z6) 0).mono ?_)
  rintro e w2 ⟨rfl, hm, hf⟩
  have D2 := Lib.hid (D0.out.racc hm hf)
  have F2 := Lib.hid hf
  have e20 : w2.cell? ⟨p, 20, none⟩ = some (.pointer (some ⟨m, 0, none⟩)) := D2.out.e.at20
  clear hm hf e11 R1 R2 R3
  go_wp2_with fail
  (with_reducible refine (store_any D2.out.e.mem _ _).mono ?_)
  rintro e w3 ⟨rfl, hm, hf⟩
  have D3 := Lib.hid (D2.out.pacc hm hf)
  have F3 := Lib.hid ((F2.out.mono (T := [m, g, q, a.g]) (by simp)).trans (hf.mono (by simp)))
  clear hm hf e20 D2 F2
  go_wp2
  go_end0
  exact dist_end (w2 := w) HN.out.1 HN.out.2 (by rw [HL.out.1]; exact HL.out.2.2) (uw_wrap _) D3.out F3.out
theorem disturb_x (h : Duo w B p m k g cap hd rv ev q a s s t d es es2 rs rs2) (hn : s.N) (hc : 0 ≤ s.c ∧ s.c < 1000000) (x y : Int) :
    Calls Tryz.prog 23 #[.pointer (some ⟨p, 0, none⟩), .pointer (some ⟨q, 0, none⟩), .int .i64 x, .int .i64 y] w (DistX w B p m k g cap hd rv ev q a s t d es es2 rs rs2) := by
  rcases Nat.eq_zero_or_pos s.X.length with hL | hL
  · have e11 : w.cell? ⟨q, 11, none⟩ = some (.slice (some ⟨a.g, 0, none⟩) s.X.length a.cap) := h.f.m.blk.at_ 11
    rw [hL] at e11
    have D0 := Lib.hid h
    have HN := Lib.hid (And.intro hn hc)
    clear h hn hc hL
    go_enter Tryz.func23, Tryz.ntmps23
    go_wp2
    go_end0
    exact ⟨s, rfl, D0.out, HN.out.1, Int.le_refl _, by omega, Fr.refl _ _, fun h => h, rfl⟩
  · by_cases h0 : drw (wrap64 (y.tdiv 6)) 4 = 0
    · exact disturb_p h hn hc x y hL h0
    by_cases h1 : drw (wrap64 (y.tdiv 6)) 4 = 1
    · exact disturb_m h hn hc x y hL h1
    exact disturb_n h hn hc x y hL h0 h1
end
end Go.Proofs.YtanbjdlaolgepaaGreat

namespace Go.Proofs.YtanbjdlaolgepaaGreat
open Go Go.RowKit Go.Shelf

/-- The cells of an environment's configuration and layout. -/
abbrev hdC (c : Cfg) (pa : Option Addr) (pn pc : Nat) (sa : Option Addr) (sn sc : Nat) (l0 l1 l2 l3 l4 l5 l6 l7 l8 : Int) : List Value := [.int .i64 c.wo, .int .i64 c.le, .int .i64 c.cl, .int .i64 c.ta, .int .i64 c.de, .int .i64 c.he, .int .i64 c.ba, .int .i64 c.ag, .int .i64 c.pa, .slice pa pn pc, .slice sa sn sc, .int .i64 l0, .int .i64 l1, .int .i64 l2, .int .i64 l3, .int .i64 l4, .int .i64 l5, .int .i64 l6, .int .i64 l7, .int .i64 l8]
end Go.Proofs.YtanbjdlaolgepaaGreat

namespace Go.Proofs.YtanbjdlaolgepaaGreat
open Go Go.RowKit

/-- The slice (a, n) reads as the bytes zs, in a block below B. -/
def InB (w : World) (B : Nat) (a : Option Addr) (n : Nat) (zs : List Int) : Prop :=
  zs.length = n ∧ n ≤ maxLen ∧ ∀ i, i < n → ∃ x : Addr, a = some x ∧ x.block < B ∧ w.cell? (x.add i) = some (.int .u8 (zs.getD i 0)) ∧ 0 ≤ zs.getD i 0 ∧ zs.getD i 0 ≤ 255
theorem InB.fr {w w' : World} {B : Nat} {a : Option Addr} {n : Nat} {zs : List Int} {S : List Nat} (h : InB w B a n zs) (hB : B ≤ w.heap.size) (hb : Fr S w w') (hS : ∀ s, s ∈ S → B ≤ s) : InB w' B a n zs :=
  ⟨h.1, h.2.1, fun i hi => by
    obtain ⟨x, e, hx, hc, hr⟩ := h.2.2 i hi
    refine ⟨x, e, hx, ?_, hr⟩
    have hk := hb.block x.block (by omega) (fun hm => by have := hS _ hm; omega)
    rw [World.cell?_of_block (w := w) (by rw [block_add]; exact hk)]
    exact hc⟩
theorem InB.below {w w' : World} {B : Nat} {a : Option Addr} {n : Nat} {zs : List Int} (h : InB w B a n zs) (_hB : B ≤ w.heap.size) (hb : Below B w w') : InB w' B a n zs :=
  ⟨h.1, h.2.1, fun i hi => by
    obtain ⟨x, e, hx, hc, hr⟩ := h.2.2 i hi
    refine ⟨x, e, hx, ?_, hr⟩
    rw [hb.cell (by rw [block_add]; exact hx)]
    exact hc⟩
theorem InB.mono {w : World} {B B' : Nat} {a : Option Addr} {n : Nat} {zs : List Int} (h : InB w B a n zs) (hB : B ≤ B') : InB w B' a n zs :=
  ⟨h.1, h.2.1, fun i hi => by
    obtain ⟨x, e, hx, r⟩ := h.2.2 i hi
    exact ⟨x, e, by omega, r⟩⟩
/-- Eleven cells stored. -/
theorem Blk.put11 {w : World} {g : Nat} {t : TypeId} {a0 a1 a2 a3 a4 a5 a6 a7 a8 a9 a10 : Value} (h : Blk w g t #[a0, a1, a2, a3, a4, a5, a6, a7, a8, a9, a10]) (v0 v1 v2 v3 v4 v5 v6 v7 v8 v9 v10 : Value) : Blk (((((((((((w.setCell ⟨g, 0, none⟩ v0).setCell ⟨g, 1, none⟩ v1).setCell ⟨g, 2, none⟩ v2).setCell ⟨g, 3, none⟩ v3).setCell ⟨g, 4, none⟩ v4).setCell ⟨g, 5, none⟩ v5).setCell ⟨g, 6, none⟩ v6).setCell ⟨g, 7, none⟩ v7).setCell ⟨g, 8, none⟩ v8).setCell ⟨g, 9, none⟩ v9).setCell ⟨g, 10, none⟩ v10) g t #[v0, v1, v2, v3, v4, v5, v6, v7, v8, v9, v10] := by
  have := (((((((((((h.put 0 v0).put 1 v1).put 2 v2).put 3 v3).put 4 v4).put 5 v5).put 6 v6).put 7 v7).put 8 v8).put 9 v9).put 10 v10)
  simpa only [List.setIfInBounds_toArray, List.set_cons_zero, List.set_cons_succ] using this
theorem fr11 (w : World) (g : Nat) (v0 v1 v2 v3 v4 v5 v6 v7 v8 v9 v10 : Value) : Fr [g] w (((((((((((w.setCell ⟨g, 0, none⟩ v0).setCell ⟨g, 1, none⟩ v1).setCell ⟨g, 2, none⟩ v2).setCell ⟨g, 3, none⟩ v3).setCell ⟨g, 4, none⟩ v4).setCell ⟨g, 5, none⟩ v5).setCell ⟨g, 6, none⟩ v6).setCell ⟨g, 7, none⟩ v7).setCell ⟨g, 8, none⟩ v8).setCell ⟨g, 9, none⟩ v9).setCell ⟨g, 10, none⟩ v10) :=
  ((((((((((((Fr.refl [g] w).setCell (p := ⟨g, 0, none⟩) (.inl (List.mem_singleton.2 rfl)) v0).setCell (p := ⟨g, 1, none⟩) (.inl (List.mem_singleton.2 rfl)) v1).setCell (p := ⟨g, 2, none⟩) (.inl (List.mem_singleton.2 rfl)) v2).setCell (p := ⟨g, 3, none⟩) (.inl (List.mem_singleton.2 rfl)) v3).setCell (p := ⟨g, 4, none⟩) (.inl (List.mem_singleton.2 rfl)) v4).setCell (p := ⟨g, 5, none⟩) (.inl (List.mem_singleton.2 rfl)) v5).setCell (p := ⟨g, 6, none⟩) (.inl (List.mem_singleton.2 rfl)) v6).setCell (p := ⟨g, 7, none⟩) (.inl (List.mem_singleton.2 rfl)) v7).setCell (p := ⟨g, 8, none⟩) (.inl (List.mem_singleton.2 rfl)) v8).setCell (p := ⟨g, 9, none⟩) (.inl (List.mem_singleton.2 rfl)) v9).setCell (p := ⟨g, 10, none⟩) (.inl (List.mem_singleton.2 rfl)) v10)

abbrev zero11 : Array Value := #[.int .i64 0, .int .i64 0, .int .i64 0, .int .i64 0, .int .i64 0, .int .i64 0, .int .i64 0, .int .i64 0, .int .i64 0, .slice none 0 0, .slice none 0 0]

/-- A reader that stands where it stood while other blocks change. -/
def Stable (Rd : World → Nat → Nat → List Int → Nat → Prop) : Prop :=
  ∀ {w w' : World} {B g : Nat} {zs : List Int} {i : Nat} {S : List Nat}, Rd w B g zs i → Fr S w w' → (∀ s, s ∈ S → B ≤ s ∧ s ≠ g) → Rd w' B g zs i
end Go.Proofs.YtanbjdlaolgepaaGreat
