/-
  Slices of uint64 that a call reads. No function is named.
  workstealmatch.Bare: two equal environments with the given words.
-/
import Derived.Test.YtllllbepnnpeeaaGreatMgAB
import Derived.Test.YtllllbepnnpeeaaGreatMgAA
import Derived.Test.YtllllbepnnpeeaaGreatDuo
import Derived.Test.YtllllbepnnpeeaaGreatMgAM
import Derived.Test.YtllllbepnnpeeaaGreatEnvB
import Derived.Test.YtllllbepnnpeeaaGreatMgBA
import Derived.Test.YtllllbepnnpeeaaGreatMgAS
import Derived.LoopTactic
import Derived.OwnWalk
namespace Go.Proofs.YtllllbepnnpeeaaGreat
open Go Go.RowKit

/-- The slice (a, n) reads as the words X. -/
def InW (w : World) (a : Option Addr) (n : Nat) (X : List Int) : Prop :=
  X.length = n ∧ n ≤ maxLen ∧ ∀ i, i < n → ∃ x : Addr, a = some x ∧ x.block < w.heap.size ∧ w.cell? (x.add i) = some (.int .u64 (X.getD i 0))
theorem InW.below {w w' : World} {a : Option Addr} {n : Nat} {X : List Int} (h : InW w a n X) (hb : Below w.heap.size w w') : InW w' a n X :=
  ⟨h.1, h.2.1, fun i hi => by
    obtain ⟨x, e, hx, hc⟩ := h.2.2 i hi
    exact ⟨x, e, Nat.lt_of_lt_of_le hx hb.size, (hb.cell (by rw [block_add]; exact hx)).trans hc⟩⟩
theorem InW.cell {w : World} {x : Addr} {n i : Nat} {X : List Int} (h : InW w (some x) n X) (hi : i < n) : w.cell? (x.add i) = some (.int .u64 (X.getD i 0)) := by
  obtain ⟨y, e, _, hc⟩ := h.2.2 i hi
  cases e
  exact hc
theorem Row.inW {w : World} {g n cap : Nat} {X : List Int} (h : Row w g n cap X) : InW w (some ⟨g, 0, none⟩) n X :=
  ⟨h.len, Nat.le_trans h.le h.max, fun i hi => ⟨_, rfl, h.lt, by
    have e : (⟨g, 0, none⟩ : Addr).add i = ⟨g, i, none⟩ := by unfold Addr.add; split <;> simp_all
    rw [e]
    exact h.cell hi⟩⟩
end Go.Proofs.YtllllbepnnpeeaaGreat

namespace Go.Proofs.YtllllbepnnpeeaaGreat
open Go Go.RowKit Go.Shelf
set_option linter.unusedSimpArgs false

abbrev nilV : Value := .slice none 0 0
/-- What Bare gives. -/
def BareD (n : Nat) (X : List Int) (w : World) (e : Ending) (w' : World) : Prop :=
  ∃ p m k g q ag acap s, e = .returned (.tuple #[.pointer (some ⟨p, 0, none⟩), .pointer (some ⟨q, 0, none⟩), .bool true]) ∧ Duo w' w.heap.size p m k g n hd0 nilV nilV q (bareA ag acap) s s 0 0 [] [] [] [] ∧ s.X = X ∧ s.c = n ∧ Below w.heap.size w w'
/-- What its loop keeps: j words are stored. -/
def BareL (w : World) (n : Nat) (X : List Int) (p m k g q ag acap : Nat) (i : Value) (wr : World) : Prop :=
  ∃ (j : Nat) (s : St), j ≤ n ∧ i = .int .i64 j ∧ Duo wr w.heap.size p m k g n hd0 nilV nilV q (bareA ag acap) s s 0 0 [] [] [] [] ∧ s.X = X.take j ++ List.replicate (n - j) 0 ∧ s.c = j ∧ Below w.heap.size w wr

theorem bare_fill (X : List Int) (n j : Nat) (hl : X.length = n) (hj : j < n) : (X.take j ++ List.replicate (n - j) 0).set j (X.getD j 0) = X.take (j + 1) ++ List.replicate (n - (j + 1)) 0 := by
  rw [List.set_append_right _ _ (by simp; omega), List.length_take, Nat.min_eq_left (by omega), Nat.sub_self, show n - j = (n - (j + 1)) + 1 by omega, List.replicate_succ, List.set_cons_zero, List.take_add_one, List.append_assoc]
  rw [List.getD_eq_getElem?_getD, List.getElem?_eq_getElem (by omega)]
  rfl

set_option maxRecDepth 100000 in
set_option maxHeartbeats 8000000 in
theorem mbare_any {w : World} {a : Option Addr} {n : Nat} {X : List Int} (h : InW w a n X) (c : Nat) (hn : n ≤ 1000) :
    Calls Tryz.prog 17 #[.slice a n c] w (BareD n X w) := by
  have hsz : sizeS (n : Int) = n := by unfold sizeS; split <;> (try split) <;> omega
  have HIN := Lib.hid h
  have HR := Lib.hid (fun W : World => bare_any (n : Int) W)
  have HP := Lib.hid (fun W : World => pbare_any (n : Int) W)
  rw [hsz] at HR HP
  clear h hsz
  go_enter Tryz.func17, Tryz.ntmps17
  go_wp2_with fail
  (with_reducible refine (HR.out _).mono ?_)
  rintro e w1 ⟨q, ag, acap, rfl, hf, hb⟩
  have HF := Lib.hid hf
  have HB := Lib.hid hb
  clear hf hb HR
  go_wp2_with fail
  (with_reducible refine (HP.out _).mono ?_)
  rintro e w2 ⟨p, m, k, g, rfl, hp, hb, l1, l2, l3, l4⟩
  have hs1 := HB.out.size
  have hgl := HF.out.m.row.lt
  have hd : Duo w2 w.heap.size p m k g n hd0 nilV nilV q (bareA ag acap) (St.new n) (St.new n) 0 0 [] [] [] [] :=
    ⟨hp, World.ownsRow_nil _ _ _ _, ⟨[], rfl, World.ownsRow_nil _ _ _ _, fun i hi => by simp at hi⟩, HF.out.below hb, by intro e; have : ag < w1.heap.size := hgl; have : g = ag := e; omega, by intro x hx; simp [Value.ownBlock] at hx, by intro x hx; simp [Value.ownBlock] at hx, by omega, by omega, by omega, by omega⟩
  have D2 := Lib.hid hd
  have B2 := Lib.hid (HB.out.trans (hb.mono hs1))
  have hln : (St.new n).X.length = n := by simp [St.new]
  have HLN := Lib.hid hln
  clear hp hb l1 l2 l3 l4 hs1 hgl hd HF HB HP
  have d20 : w2.drew.cell? ⟨p, 20, none⟩ = some (.pointer (some ⟨m, 0, none⟩)) := D2.out.e.at20
  have d21 : w2.drew.cell? ⟨p, 21, none⟩ = some (.pointer (some ⟨k, 0, none⟩)) := D2.out.e.at21
  have d11 : w2.drew.cell? ⟨q, 11, none⟩ = some (.slice (some ⟨ag, 0, none⟩) n acap) := by rw [← hln]; exact D2.out.f.m.blk.at_ 11
  have KS := Lib.hid (show Calls Tryz.prog 38 #[.pointer (some ⟨m, 0, none⟩)] w2.drew (fun e V' => e = .returned (.int .i64 n) ∧ w2.drew = V') from hln ▸ msize_any (D2.out.drewN 1).e.mem)
  clear hln
  go_wp2_with fail
  go_region_held3 (fun w' => w'.cell? ⟨p, 20, none⟩ = some (.pointer (some ⟨m, 0, none⟩)) ∧ w'.cell? ⟨p, 21, none⟩ = some (.pointer (some ⟨k, 0, none⟩)) ∧ w'.cell? ⟨q, 11, none⟩ = some (.slice (some ⟨ag, 0, none⟩) n acap)) ((first | exact ⟨d20, d21, d11⟩ | go_keep))
    ((go_at_call 38
      refine KS.out.mono ?_
      rintro e u ⟨rfl, rfl⟩))
  have D3 := Lib.hid (D2.out.drewN 1)
  have B3 := Lib.hid (below_drew B2.out)
  clear d20 d21 d11 KS D2 B2
  go_wp2_with fail
  go_loopw [7] (fun i wr => BareL w n X p m k g q ag acap i wr) (fun i _ => n - (intOf i).toNat)
  case atStart => exact ⟨0, St.new n, by omega, rfl, D3.out, by simp [St.new], rfl, B3.out⟩
  case round =>
    clear D3 B3
    obtain ⟨j, s, hj, rfl, hd, hX, hc, hb⟩ := hrel
    have hlen : s.X.length = n := by rw [hX]; simp [HIN.out.1]; omega
    have e11 : wr.cell? ⟨q, 11, none⟩ = some (.slice (some ⟨ag, 0, none⟩) n acap) := by rw [← hlen]; exact hd.f.m.blk.at_ 11
    have D := Lib.hid hd
    have BB := Lib.hid hb
    have HX := Lib.hid (And.intro hX (And.intro hc hlen))
    clear hd hb hX hc hlen
    by_cases hlt : j < n
    · obtain ⟨x, rfl, hxl, hxc⟩ := (HIN.out.below BB.out).2.2 j hlt
      obtain ⟨b, hbv⟩ : ∃ b, X.getD j 0 = b := ⟨_, rfl⟩
      rw [hbv] at hxc
      have HBV := Lib.hid hbv
      clear hbv
      have D1 := Lib.hid (D.out.drewN 1)
      have y0 : wr.drew.cell? (x.add j) = some (.int .u64 b) := hxc
      have hxl' : (x.add j).block < wr.drew.heap.size := by rw [block_add]; exact hxl
      have HXL := Lib.hid hxl'
      clear hxl hxl'
      go_wp2_with fail
      go_region_held3 (fun w' => w'.cell? (x.add j) = some (.int .u64 b)) ((first | exact y1 | exact y0 | go_keep))
        ((go_at_call 39
          refine (eacc_store D1.out.f.m (j := j) (by rw [HX.out.2.2]; exact hlt) b 0).mono ?_
          rintro e W2 ⟨rfl, hm, hf⟩
          have y1 : W2.cell? (x.add j) = some (.int .u64 b) := by rw [← HBV.out]; exact (HIN.out.below (below_of_fr (below_drew BB.out) hf D1.out.lowR)).cell hlt
          have D2 := Lib.hid (D1.out.racc hm hf)
          have B2 := Lib.hid (below_of_fr (below_drew BB.out) hf D1.out.lowR)
          clear hm hf))
      clear hxc y0 e11
      have D3 := Lib.hid (D2.out.drewN 1)
      have z0 : W2.drew.cell? (x.add j) = some (.int .u64 b) := y1
      have z20 : W2.drew.cell? ⟨p, 20, none⟩ = some (.pointer (some ⟨m, 0, none⟩)) := D3.out.e.at20
      clear y1
      go_wp2_with fail
      go_region_held3 (fun w' => w'.cell? (x.add j) = some (.int .u64 b) ∧ w'.cell? ⟨p, 20, none⟩ = some (.pointer (some ⟨m, 0, none⟩))) ((first | exact ⟨z1, z21⟩ | exact ⟨z0, z20⟩ | go_keep))
        ((go_at_call 40
          refine (store_any D3.out.e.mem _ _).mono ?_
          rintro e W3 ⟨rfl, hm, hf⟩
          have z1 : W3.cell? (x.add j) = some (.int .u64 b) := by rw [← HBV.out]; exact (HIN.out.below (below_of_fr (below_drew B2.out) hf D1.out.lowP)).cell hlt
          have D4 := Lib.hid (D3.out.pacc hm hf)
          have z21 : W3.cell? ⟨p, 20, none⟩ = some (.pointer (some ⟨m, 0, none⟩)) := D4.out.e.at20
          have B4 := Lib.hid (below_of_fr (below_drew B2.out) hf D1.out.lowP)
          clear hm hf))
      clear z0 z20 z1 z21
      have hgo : s.go 2 j (fun _ => b) = s.acc 2 j b := by
        unfold St.go
        rw [if_pos (show s.has (j : Int) from ⟨by omega, by rw [HX.out.2.2]; omega⟩), Int.toNat_natCast]
      have HGO := Lib.hid hgo
      clear hgo
      go_wp2_with fail
      go_roundw
      case rel =>
        have hd4 := D4.out
        rw [HGO.out] at hd4
        refine ⟨j + 1, s.acc 2 j b, by omega, by go_num, hd4, ?_, ?_, B4.out⟩
        · show s.X.set j b = _
          rw [HX.out.1, ← HBV.out]
          exact bare_fill X n j HIN.out.1 hlt
        · show wrap64 (s.c + 1) = _
          rw [HX.out.2.1]
          unfold wrap64
          omega
      case measure => simp [intOf]; omega
    · obtain rfl : j = n := by omega
      have hXX : s.X = X := by
        have := HX.out.1
        rw [Nat.sub_self, List.replicate_zero, List.append_nil, List.take_of_length_le (by rw [HIN.out.1]; exact Nat.le_refl _)] at this
        exact this
      have HM := Lib.hid (msame_any D.out.twin (by simp))
      have HXX := Lib.hid hXX
      clear hXX
      go_wp2_with fail
      (with_reducible refine HM.out.mono ?_)
      rintro e w5 ⟨rfl, hb5⟩
      have D5 := Lib.hid (D.out.below hb5)
      have B5 := Lib.hid (BB.out.trans (hb5.mono BB.out.size))
      clear hb5 e11
      go_wp2
      go_ret3
      exact ⟨p, m, k, g, q, ag, acap, s, rfl, D5.out, HXX.out, HX.out.2.1, B5.out⟩
end Go.Proofs.YtllllbepnnpeeaaGreat
