/-
  The keep's Short, of one and of two lists of numbers.
  The keep's Number of one number.
  Stage 11: a game on a plan of a law: what its operations have.
  The reference's environment: its cells. No function is named. (Written by wip/gen_env.py.)
  The accesses to the memory of the reference's environment, by Access. (Once written by wip/gen_env.py.)
-/
import Derived.Test.YtjehiekmlbeaeaaGreatMgAB
import Derived.LoopTactic
import Derived.Test.YtjehiekmlbeaeaaGreatMgBA
import Derived.Test.YtjehiekmlbeaeaaGreatMgAA
import Derived.Test.YtjehiekmlbeaeaaGreatMgBG
import Derived.Test.YtjehiekmlbeaeaaGreatMgAY
import Derived.Lib.Hide
namespace Go.Proofs.YtjehiekmlbeaeaaGreat
open Go Go.RowKit
set_option linter.unusedSimpArgs false

theorem short1_any {w : World} {g : Nat} {a : Option Addr} {n c : Nat} (h : Blk w g 60 #[.slice a n c]) (hn : n ≤ 9223372036854775807) :
    Calls Tryz.prog 8 #[.slice none 0 0, .slice (some ⟨g, 0, none⟩) 1 1] w fun e w' => e = .returned (.bool (decide ((n : Int) ≤ 400))) ∧ w = w' := by
  have c0 : w.cell? ⟨g, 0, none⟩ = some (.slice a n c) := h.at_ 0
  clear h
  by_cases hb : n ≤ 400
  · have hd : decide (400 < (n : Int)) = false := decide_eq_false (by omega)
    rw [decide_eq_true (by omega : (n : Int) ≤ 400)]
    go_enter Tryz.func8, Tryz.ntmps8
    go_wp2_with fail
    go_loopw [5] (fun i wr => ∃ j : Nat, j ≤ 1 ∧ i = .int .i64 j ∧ wr = w) (fun i _ => 1 - (intOf i).toNat)
    case atStart => exact ⟨0, by omega, rfl, rfl⟩
    case round =>
      obtain ⟨j, hj, rfl, rfl⟩ := hrel
      rcases (show j = 0 ∨ j = 1 by omega) with rfl | rfl
      · go_wp2_with fail
        go_roundw
        case rel => exact ⟨1, by omega, by go_num, by first | trivial | rfl⟩
        case measure => simp [intOf]
      · go_wp2
        go_ret
        exact ⟨rfl, rfl⟩
  · have hd : decide (400 < (n : Int)) = true := decide_eq_true (by omega)
    rw [decide_eq_false (by omega : ¬ (n : Int) ≤ 400)]
    go_enter Tryz.func8, Tryz.ntmps8
    go_wp2_with fail
    go_loopw [5] (fun i wr => i = .int .i64 0 ∧ wr = w) (fun i _ => 1 - (intOf i).toNat)
    case atStart => exact ⟨rfl, rfl⟩
    case round =>
      obtain ⟨rfl, rfl⟩ := hrel
      go_wp2
      go_ret
      exact ⟨rfl, rfl⟩
theorem short2_any {w : World} {g : Nat} {a b : Option Addr} {n c n' c' : Nat} (h : Blk w g 60 #[.slice a n c, .slice b n' c']) (hn : n ≤ 9223372036854775807) (hn' : n' ≤ 9223372036854775807) :
    Calls Tryz.prog 8 #[.slice none 0 0, .slice (some ⟨g, 0, none⟩) 2 2] w fun e w' => e = .returned (.bool (decide ((n : Int) ≤ 400) && decide ((n' : Int) ≤ 400))) ∧ w = w' := by
  have c0 : w.cell? ⟨g, 0, none⟩ = some (.slice a n c) := h.at_ 0
  have c1 : w.cell? ⟨g, 1, none⟩ = some (.slice b n' c') := h.at_ 1
  clear h
  by_cases hb : n ≤ 400
  case neg =>
    have hd : decide (400 < (n : Int)) = true := decide_eq_true (by omega)
    rw [decide_eq_false (by omega : ¬ (n : Int) ≤ 400), Bool.false_and]
    go_enter Tryz.func8, Tryz.ntmps8
    go_wp2_with fail
    go_loopw [5] (fun i wr => i = .int .i64 0 ∧ wr = w) (fun i _ => 1 - (intOf i).toNat)
    case atStart => exact ⟨rfl, rfl⟩
    case round =>
      obtain ⟨rfl, rfl⟩ := hrel
      go_wp2
      go_ret
      exact ⟨rfl, rfl⟩
  have hd : decide (400 < (n : Int)) = false := decide_eq_false (by omega)
  rw [decide_eq_true (by omega : (n : Int) ≤ 400), Bool.true_and]
  by_cases hb' : n' ≤ 400
  · have hd' : decide (400 < (n' : Int)) = false := decide_eq_false (by omega)
    rw [decide_eq_true (by omega : (n' : Int) ≤ 400)]
    go_enter Tryz.func8, Tryz.ntmps8
    go_wp2_with fail
    go_loopw [5] (fun i wr => ∃ j : Nat, j ≤ 2 ∧ i = .int .i64 j ∧ wr = w) (fun i _ => 2 - (intOf i).toNat)
    case atStart => exact ⟨0, by omega, rfl, rfl⟩
    case round =>
      obtain ⟨j, hj, rfl, rfl⟩ := hrel
      rcases (show j = 0 ∨ j = 1 ∨ j = 2 by omega) with rfl | rfl | rfl
      · go_wp2_with fail
        go_roundw
        case rel => exact ⟨1, by omega, by go_num, by first | trivial | rfl⟩
        case measure => simp [intOf]
      · go_wp2_with fail
        go_roundw
        case rel => exact ⟨2, by omega, by go_num, by first | trivial | rfl⟩
        case measure => simp [intOf]
      · go_wp2
        go_ret
        exact ⟨rfl, rfl⟩
  · have hd' : decide (400 < (n' : Int)) = true := decide_eq_true (by omega)
    rw [decide_eq_false (by omega : ¬ (n' : Int) ≤ 400)]
    go_enter Tryz.func8, Tryz.ntmps8
    go_wp2_with fail
    go_loopw [5] (fun i wr => ∃ j : Nat, j ≤ 1 ∧ i = .int .i64 j ∧ wr = w) (fun i _ => 1 - (intOf i).toNat)
    case atStart => exact ⟨0, by omega, rfl, rfl⟩
    case round =>
      obtain ⟨j, hj, rfl, rfl⟩ := hrel
      rcases (show j = 0 ∨ j = 1 by omega) with rfl | rfl
      · go_wp2_with fail
        go_roundw
        case rel => exact ⟨1, by omega, by go_num, by first | trivial | rfl⟩
        case measure => simp [intOf]
      · go_wp2
        go_ret
        exact ⟨rfl, rfl⟩
end Go.Proofs.YtjehiekmlbeaeaaGreat

namespace Go.Proofs.YtjehiekmlbeaeaaGreat
open Go Go.RowKit

theorem ints_lone (w : World) (z : Int) : InInts (w.alloc (.cells #[.int .i64 z] 3)) (some ⟨w.heap.size, 0, none⟩) 1 [z] := by
  have hB := Blk.made w 3 #[.int .i64 z]
  refine ⟨rfl, by unfold maxLen; omega, fun i hi => ⟨_, rfl, hB.lt, ?_⟩⟩
  obtain rfl : i = 0 := by omega
  have e : (⟨w.heap.size, 0, none⟩ : Addr).add 0 = ⟨w.heap.size, 0, none⟩ := by unfold Addr.add; rfl
  rw [e, hB.at_]
  rfl
theorem keepnum0 {w : World} {a : Option Addr} {L : Nat} {zs : List Int} (h : InInts w a L zs) (c : Nat) (n : Int) (hn : 1 ≤ n) (hn' : n ≤ 1000000) :
    Calls Tryz.prog 25 #[.slice a L c, .int .i64 0, .int .i64 n] w (NumR n w) := keepnum_any h c 0 (by omega) n hn hn'
end Go.Proofs.YtjehiekmlbeaeaaGreat

namespace Go.Proofs.YtjehiekmlbeaeaaGreat
open Go Go.RowKit Go.Shelf
set_option linter.unusedSimpArgs false
set_option linter.unusedVariables false

theorem sizeS_nat (C : Nat) (h : C ≤ 100) : sizeS (2 + (C : Int)) = C + 2 := by
  unfold sizeS
  rw [if_neg (by omega), if_pos (by omega)]
  omega
theorem old_new (n : Nat) (i : Int) : (St.new n).old i = 0 := by
  unfold St.old
  split
  · show (List.replicate n (0 : Int)).getD _ 0 = 0
    rw [List.getD_eq_getElem?_getD, List.getElem?_replicate]
    split <;> rfl
  · rfl
theorem cl_new (C : Nat) (h1 : 1 ≤ C) (h2 : C ≤ 100) : CL (St.new (sizeS (2 + (C : Int)))) C 0 0 [] := by
  refine ⟨⟨h1, h2⟩, ?_, old_new _ _, by simp, ⟨by omega, by show 0 + 0 < 0 + 1000000; omega, by omega⟩, fun i hi => absurd hi (by simp)⟩
  rw [sizeS_nat C h2]
  simp [St.new]
/-- What holds of the operations of a game. -/
structure GameG (C cnt : Nat) (r : List OpR) : Prop where
  lin : LinP C r
  wf : ∀ o, o ∈ r → WfO o
  ab : ∀ o, o ∈ r → o.c = 4 → o.k = 2 ∧ Rival r o
  ct : ∀ v, r.countP (isOut v) ≤ r.countP (isIn v)
  len : r.length = cnt
  fit : ∀ o, o ∈ r → FitO 190000 o
theorem game_good {C cnt : Nat} {P : List (List ActR)} {picks : List Int} {r : List OpR} (h : Plays (St.new (sizeS (2 + (C : Int)))) C P picks r) (hk : PlnOk cnt P) (hK : 2 ≤ P.length) (h1 : 1 ≤ C) (h2 : C ≤ 100) (hp : picks.length ≤ 400) (hc : cnt ≤ 100) : GameG C cnt r := by
  obtain ⟨k1, k2, k3, _⟩ := hk.first (St.new (sizeS (2 + (C : Int))))
  have hg := plays_good h (by intro e; rw [e] at hK; simp at hK) k1 (cl_new C h1 h2) (old_new _ _) (by omega)
  rw [k3] at hg
  exact ⟨hg.1, hg.2.1, hg.2.2.1, hg.2.2.2.1, hg.2.2.2.2, plays_fit h k1 (by omega)⟩
/-- What Play gives for a plan of a law. -/
def GamD (C cnt : Nat) (w : World) (e : Ending) (w' : World) : Prop := ∃ (r : List OpR) (a : Option Addr) (c : Nat), e = .returned (.slice a cnt c) ∧ InOp w' a r ∧ GameG C cnt r ∧ Below w.heap.size w w'
theorem game_any {w0 w : World} {ob K cnt C M d : Nat} {z : Int} {b : Option Addr} {P : List (List ActR)} {V : List Value} {picks : List Int} (h : PO w0 w ob K P V) (hk : PlnOk cnt P) (hK : 2 ≤ K ∧ K ≤ 4) (hc : cnt ≤ 100) (hz : z = (C : Int)) (h1 : 1 ≤ C) (h2 : C ≤ 64) (hp : InInts w b M picks) (hM : M ≤ 400)
    (hr : ∀ i, i < M → -9223372036854775808 ≤ picks.getD i 0 ∧ picks.getD i 0 ≤ 9223372036854775807) :
    Calls Tryz.prog 28 #[.int .i64 z, .slice (some ⟨ob, 0, none⟩) K K, .slice b M d] w (GamD C cnt w) := by
  obtain ⟨k1, k2, k3, _⟩ := hk.first (St.new (sizeS (2 + (C : Int))))
  have hin : PlyIn w (some ⟨ob, 0, none⟩) b K M P picks (sizeS (2 + (C : Int))) := ⟨h.inPl hk (by omega), h.lp, by omega, hp, by omega, k1, hr, by rw [k2]; omega, by rw [k3]; omega⟩
  refine (play_any (C := C) (z := z) (c := K) (d := d) hin (by omega)).mono ?_
  rintro e w' ⟨v, r, rfl, hown, hpl, hb⟩
  have hg := game_good hpl hk (by rw [h.lp]; exact hK.1) h1 (by omega) (by rw [hp.1]; exact hM) hc
  obtain ⟨a, c, hv, _, hi⟩ := hown.inG
  rw [List.length_map, hg.len] at hv
  exact ⟨r, a, c, congrArg Ending.returned hv, hi, hg, hb⟩
end Go.Proofs.YtjehiekmlbeaeaaGreat

namespace Go.Proofs.YtjehiekmlbeaeaaGreat
open Go Go.RowKit
set_option linter.unusedSimpArgs false

/-- What an environment holds besides its memory's state: the configuration and where its lists lie, the memory's row, the records, the events. -/
structure EnvA where
  c : Cfg
  pa : Option Addr
  pn : Nat
  pc : Nat
  sa : Option Addr
  sn : Nat
  sc : Nat
  g : Nat
  cap : Nat
  now : Int
  draw : Int
  rv : Value
  ev : Value
/-- Its cells. -/
abbrev ecells (a : EnvA) (s : St) : Array Value :=
  #[.int .i64 a.c.wo, .int .i64 a.c.le, .int .i64 a.c.cl, .int .i64 a.c.ta, .int .i64 a.c.de, .int .i64 a.c.he, .int .i64 a.c.ba, .int .i64 a.c.ag, .int .i64 a.c.pa, .slice a.pa a.pn a.pc, .slice a.sa a.sn a.sc,
    .slice (some ⟨a.g, 0, none⟩) s.X.length a.cap, .int .i64 s.k, .int .i64 s.i, .int .u64 s.o, .int .u64 s.v, .int .i64 s.c, .int .i64 a.now, .int .i64 a.draw, a.rv, a.ev]
/-- Block p is an environment in state s. -/
structure EnvM (w : World) (p : Nat) (a : EnvA) (s : St) : Prop where
  blk : Blk w p 56 (ecells a s)
  row : Row w a.g s.X.length a.cap s.X
  small : s.X.length ≤ 131072
theorem EnvM.ne {w : World} {p : Nat} {a : EnvA} {s : St} (h : EnvM w p a s) : p ≠ a.g := by
  obtain ⟨cur, hb, _⟩ := h.row.blk
  exact h.blk.apart hb (by decide)
theorem EnvM.of_same {w w' : World} {p : Nat} {a : EnvA} {s : St} (h : EnvM w p a s) (e : w'.heap[p]? = w.heap[p]?) (e' : w'.heap[a.g]? = w.heap[a.g]?) : EnvM w' p a s := ⟨h.blk.of_same e, h.row.of_same e', h.small⟩
theorem EnvM.fr {S : List Nat} {w w' : World} {p : Nat} {a : EnvA} {s : St} (h : EnvM w p a s) (f : Fr S w w') (hp : p ∉ S) (hg : a.g ∉ S) : EnvM w' p a s := h.of_same (f.block p h.blk.lt hp) (f.block a.g h.row.lt hg)
theorem EnvM.alloc {w : World} {p : Nat} {a : EnvA} {s : St} (h : EnvM w p a s) (o : Obj) : EnvM (w.alloc o) p a s := h.of_same (Below.heap_alloc w o p h.blk.lt) (Below.heap_alloc w o a.g h.row.lt)
theorem EnvM.drew {w : World} {p : Nat} {a : EnvA} {s : St} (h : EnvM w p a s) : EnvM w.drew p a s := h.of_same rfl rfl
theorem EnvM.drewN {w : World} {p : Nat} {a : EnvA} {s : St} (h : EnvM w p a s) (n : Nat) : EnvM (w.drewN n) p a s := h.of_same rfl rfl
theorem EnvM.below {w w' : World} {p : Nat} {a : EnvA} {s : St} (h : EnvM w p a s) (hb : Below w.heap.size w w') : EnvM w' p a s := h.of_same (hb.block p h.blk.lt) (hb.block a.g h.row.lt)
theorem EnvM.acc {w : World} {p : Nat} {a : EnvA} {s : St} (h : EnvM w p a s) (k : Int) {j : Nat} (y : Int) :
    EnvM ((((((w.setCell ⟨a.g, j, none⟩ (.int .u64 y)).setCell ⟨p, 12, none⟩ (.int .i64 k)).setCell ⟨p, 13, none⟩ (.int .i64 j)).setCell ⟨p, 14, none⟩ (.int .u64 (s.X.getD j 0))).setCell ⟨p, 15, none⟩ (.int .u64 y)).setCell ⟨p, 16, none⟩ (.int .i64 (wrap64 (s.c + 1)))) p a (s.acc k j y) := by
  have hne := h.ne
  have b := (((((h.blk.of_same (Below.heap_setCell w ⟨a.g, j, none⟩ (.int .u64 y) p hne)).put 12 (.int .i64 k)).put 13 (.int .i64 j)).put 14 (.int .u64 (s.X.getD j 0))).put 15 (.int .u64 y)).put 16 (.int .i64 (wrap64 (s.c + 1)))
  have r := h.row.put (i := j) y
  refine ⟨?_, ?_, by simpa [St.acc] using h.small⟩
  · simpa [St.acc, ecells] using b
  · have e : (s.acc k j y).X.length = s.X.length := by simp [St.acc]
    rw [e]
    refine r.of_same ?_
    rw [Below.heap_setCell _ _ _ _ (by simpa using hne.symm), Below.heap_setCell _ _ _ _ (by simpa using hne.symm), Below.heap_setCell _ _ _ _ (by simpa using hne.symm), Below.heap_setCell _ _ _ _ (by simpa using hne.symm), Below.heap_setCell _ _ _ _ (by simpa using hne.symm)]
end Go.Proofs.YtjehiekmlbeaeaaGreat

namespace Go.Proofs.YtjehiekmlbeaeaaGreat
open Go Go.RowKit
set_option linter.unusedSimpArgs false

theorem ein_yes {w : World} {p : Nat} {a : EnvA} {s : St} (h : EnvM w p a s) {j : Nat} (hj : j < s.X.length) :
    Calls Tryz.prog 60 #[.pointer (some ⟨p, 11, none⟩), .int .i64 j] w fun e w' => e = .returned (.bool true) ∧ w = w' := by
  have h0 : w.cell? ⟨p, 11, none⟩ = some (.slice (some ⟨a.g, 0, none⟩) s.X.length a.cap) := h.blk.at_ 11
  have hs := h.small
  go_enter Tryz.func60, Tryz.ntmps60
  go_wp2
  go_ret
  exact ⟨rfl, rfl⟩
theorem ein_no {w : World} {p : Nat} {a : EnvA} {s : St} (h : EnvM w p a s) {i : Int} (hi : i < 0 ∨ (s.X.length : Int) ≤ i) :
    Calls Tryz.prog 60 #[.pointer (some ⟨p, 11, none⟩), .int .i64 i] w fun e w' => e = .returned (.bool false) ∧ w = w' := by
  have h0 : w.cell? ⟨p, 11, none⟩ = some (.slice (some ⟨a.g, 0, none⟩) s.X.length a.cap) := h.blk.at_ 11
  have hs := h.small
  by_cases h1 : i < 0
  · go_enter Tryz.func60, Tryz.ntmps60
    go_wp2
    go_ret
    exact ⟨rfl, rfl⟩
  · have h2 : (s.X.length : Int) ≤ i := by omega
    have h3 : decide (i < (s.X.length : Int)) = false := by simpa using h2
    go_enter Tryz.func60, Tryz.ntmps60
    go_wp2
    go_ret
    exact ⟨rfl, rfl⟩
theorem eacc_no {w : World} {p : Nat} {a : EnvA} {s : St} (h : EnvM w p a s) {i : Int} (hi : i < 0 ∨ (s.X.length : Int) ≤ i) (q b d : Int) :
    Calls Tryz.prog 43 #[.pointer (some ⟨p, 11, none⟩), .int .i64 q, .int .i64 i, .int .u64 b, .int .u64 d] w fun e w' => e = .returned (.tuple #[.int .u64 0, .bool false]) ∧ w = w' := by
  go_enter Tryz.func43, Tryz.ntmps43
  go_wp2_with fail
  refine (ein_no h hi).mono ?_
  rintro e w' ⟨rfl, rfl⟩
  go_wp2
  go_ret2
  exact ⟨rfl, rfl⟩
theorem eacc_load {w : World} {p : Nat} {a : EnvA} {s : St} (h : EnvM w p a s) {j : Nat} (hj : j < s.X.length) (b d : Int)  :
    Calls Tryz.prog 43 #[.pointer (some ⟨p, 11, none⟩), .int .i64 1, .int .i64 j, .int .u64 b, .int .u64 d] w fun e w' => e = .returned (.tuple #[.int .u64 (s.X.getD j 0), .bool true]) ∧
      EnvM w' p a (s.acc 1 j (s.X.getD j 0)) ∧ Fr [p, a.g] w w' := by
  have h0 : w.cell? ⟨p, 11, none⟩ = some (.slice (some ⟨a.g, 0, none⟩) s.X.length a.cap) := h.blk.at_ 11
  have h1 : w.cell? ⟨p, 12, none⟩ = some (.int .i64 s.k) := h.blk.at_ 12
  have h2 : w.cell? ⟨p, 13, none⟩ = some (.int .i64 s.i) := h.blk.at_ 13
  have h3 : w.cell? ⟨p, 14, none⟩ = some (.int .u64 s.o) := h.blk.at_ 14
  have h4 : w.cell? ⟨p, 15, none⟩ = some (.int .u64 s.v) := h.blk.at_ 15
  have h5 : w.cell? ⟨p, 16, none⟩ = some (.int .i64 s.c) := h.blk.at_ 16
  have hc : w.cell? ⟨a.g, j, none⟩ = some (.int .u64 (s.X.getD j 0)) := h.row.cell hj
  have f1 := h.blk.free 12
  have f2 := h.blk.free 13
  have f3 := h.blk.free 14
  have f4 := h.blk.free 15
  have f5 := h.blk.free 16
  have fg := h.row.free j
  have hne := h.ne
  have hne' := hne.symm
  have hs := h.small
  have HA := Lib.hid (fun y => h.acc 1 (j := j) y)
  have HI := Lib.hid (ein_yes h hj)
  clear h
  generalize s.X.getD j 0 = x at *
  go_enter Tryz.func43, Tryz.ntmps43
  go_wp2_with fail
  refine HI.out.mono ?_
  rintro e w' ⟨rfl, rfl⟩
  go_wp2
  go_ret2
  exact ⟨rfl, HA.out _, ((((((Fr.refl _ _).setCell (by simp) _).setCell (by simp) _).setCell (by simp) _).setCell (by simp) _).setCell (by simp) _).setCell (by simp) _⟩
theorem eacc_store {w : World} {p : Nat} {a : EnvA} {s : St} (h : EnvM w p a s) {j : Nat} (hj : j < s.X.length) (b d : Int)  :
    Calls Tryz.prog 43 #[.pointer (some ⟨p, 11, none⟩), .int .i64 2, .int .i64 j, .int .u64 b, .int .u64 d] w fun e w' => e = .returned (.tuple #[.int .u64 (s.X.getD j 0), .bool true]) ∧
      EnvM w' p a (s.acc 2 j b) ∧ Fr [p, a.g] w w' := by
  have h0 : w.cell? ⟨p, 11, none⟩ = some (.slice (some ⟨a.g, 0, none⟩) s.X.length a.cap) := h.blk.at_ 11
  have h1 : w.cell? ⟨p, 12, none⟩ = some (.int .i64 s.k) := h.blk.at_ 12
  have h2 : w.cell? ⟨p, 13, none⟩ = some (.int .i64 s.i) := h.blk.at_ 13
  have h3 : w.cell? ⟨p, 14, none⟩ = some (.int .u64 s.o) := h.blk.at_ 14
  have h4 : w.cell? ⟨p, 15, none⟩ = some (.int .u64 s.v) := h.blk.at_ 15
  have h5 : w.cell? ⟨p, 16, none⟩ = some (.int .i64 s.c) := h.blk.at_ 16
  have hc : w.cell? ⟨a.g, j, none⟩ = some (.int .u64 (s.X.getD j 0)) := h.row.cell hj
  have f1 := h.blk.free 12
  have f2 := h.blk.free 13
  have f3 := h.blk.free 14
  have f4 := h.blk.free 15
  have f5 := h.blk.free 16
  have fg := h.row.free j
  have hne := h.ne
  have hne' := hne.symm
  have hs := h.small
  have HA := Lib.hid (fun y => h.acc 2 (j := j) y)
  have HI := Lib.hid (ein_yes h hj)
  clear h
  generalize s.X.getD j 0 = x at *
  go_enter Tryz.func43, Tryz.ntmps43
  go_wp2_with fail
  refine HI.out.mono ?_
  rintro e w' ⟨rfl, rfl⟩
  go_wp2
  go_ret2
  exact ⟨rfl, HA.out _, ((((((Fr.refl _ _).setCell (by simp) _).setCell (by simp) _).setCell (by simp) _).setCell (by simp) _).setCell (by simp) _).setCell (by simp) _⟩
theorem eacc_cas_yes {w : World} {p : Nat} {a : EnvA} {s : St} (h : EnvM w p a s) {j : Nat} (hj : j < s.X.length) (b d : Int) (hx : s.X.getD j 0 = b) :
    Calls Tryz.prog 43 #[.pointer (some ⟨p, 11, none⟩), .int .i64 3, .int .i64 j, .int .u64 b, .int .u64 d] w fun e w' => e = .returned (.tuple #[.int .u64 (s.X.getD j 0), .bool true]) ∧
      EnvM w' p a (s.acc 3 j d) ∧ Fr [p, a.g] w w' := by
  have h0 : w.cell? ⟨p, 11, none⟩ = some (.slice (some ⟨a.g, 0, none⟩) s.X.length a.cap) := h.blk.at_ 11
  have h1 : w.cell? ⟨p, 12, none⟩ = some (.int .i64 s.k) := h.blk.at_ 12
  have h2 : w.cell? ⟨p, 13, none⟩ = some (.int .i64 s.i) := h.blk.at_ 13
  have h3 : w.cell? ⟨p, 14, none⟩ = some (.int .u64 s.o) := h.blk.at_ 14
  have h4 : w.cell? ⟨p, 15, none⟩ = some (.int .u64 s.v) := h.blk.at_ 15
  have h5 : w.cell? ⟨p, 16, none⟩ = some (.int .i64 s.c) := h.blk.at_ 16
  have hc : w.cell? ⟨a.g, j, none⟩ = some (.int .u64 (s.X.getD j 0)) := h.row.cell hj
  have f1 := h.blk.free 12
  have f2 := h.blk.free 13
  have f3 := h.blk.free 14
  have f4 := h.blk.free 15
  have f5 := h.blk.free 16
  have fg := h.row.free j
  have hne := h.ne
  have hne' := hne.symm
  have hs := h.small
  have HA := Lib.hid (fun y => h.acc 3 (j := j) y)
  have HI := Lib.hid (ein_yes h hj)
  clear h
  generalize s.X.getD j 0 = x at *
  subst hx
  go_enter Tryz.func43, Tryz.ntmps43
  go_wp2_with fail
  refine HI.out.mono ?_
  rintro e w' ⟨rfl, rfl⟩
  go_wp2
  go_ret2
  exact ⟨rfl, HA.out _, ((((((Fr.refl _ _).setCell (by simp) _).setCell (by simp) _).setCell (by simp) _).setCell (by simp) _).setCell (by simp) _).setCell (by simp) _⟩
theorem eacc_cas_no {w : World} {p : Nat} {a : EnvA} {s : St} (h : EnvM w p a s) {j : Nat} (hj : j < s.X.length) (b d : Int) (hx : (s.X.getD j 0 == b) = false) :
    Calls Tryz.prog 43 #[.pointer (some ⟨p, 11, none⟩), .int .i64 3, .int .i64 j, .int .u64 b, .int .u64 d] w fun e w' => e = .returned (.tuple #[.int .u64 (s.X.getD j 0), .bool false]) ∧
      EnvM w' p a (s.acc 3 j (s.X.getD j 0)) ∧ Fr [p, a.g] w w' := by
  have h0 : w.cell? ⟨p, 11, none⟩ = some (.slice (some ⟨a.g, 0, none⟩) s.X.length a.cap) := h.blk.at_ 11
  have h1 : w.cell? ⟨p, 12, none⟩ = some (.int .i64 s.k) := h.blk.at_ 12
  have h2 : w.cell? ⟨p, 13, none⟩ = some (.int .i64 s.i) := h.blk.at_ 13
  have h3 : w.cell? ⟨p, 14, none⟩ = some (.int .u64 s.o) := h.blk.at_ 14
  have h4 : w.cell? ⟨p, 15, none⟩ = some (.int .u64 s.v) := h.blk.at_ 15
  have h5 : w.cell? ⟨p, 16, none⟩ = some (.int .i64 s.c) := h.blk.at_ 16
  have hc : w.cell? ⟨a.g, j, none⟩ = some (.int .u64 (s.X.getD j 0)) := h.row.cell hj
  have f1 := h.blk.free 12
  have f2 := h.blk.free 13
  have f3 := h.blk.free 14
  have f4 := h.blk.free 15
  have f5 := h.blk.free 16
  have fg := h.row.free j
  have hne := h.ne
  have hne' := hne.symm
  have hs := h.small
  have HA := Lib.hid (fun y => h.acc 3 (j := j) y)
  have HI := Lib.hid (ein_yes h hj)
  clear h
  generalize s.X.getD j 0 = x at *
  go_enter Tryz.func43, Tryz.ntmps43
  go_wp2_with fail
  refine HI.out.mono ?_
  rintro e w' ⟨rfl, rfl⟩
  go_wp2
  go_ret2
  exact ⟨rfl, HA.out _, ((((((Fr.refl _ _).setCell (by simp) _).setCell (by simp) _).setCell (by simp) _).setCell (by simp) _).setCell (by simp) _).setCell (by simp) _⟩
theorem eacc_or {w : World} {p : Nat} {a : EnvA} {s : St} (h : EnvM w p a s) {j : Nat} (hj : j < s.X.length) (b d : Int)  :
    Calls Tryz.prog 43 #[.pointer (some ⟨p, 11, none⟩), .int .i64 4, .int .i64 j, .int .u64 b, .int .u64 d] w fun e w' => e = .returned (.tuple #[.int .u64 (s.X.getD j 0), .bool true]) ∧
      EnvM w' p a (s.acc 4 j (bits .or .u64 (s.X.getD j 0) b)) ∧ Fr [p, a.g] w w' := by
  have h0 : w.cell? ⟨p, 11, none⟩ = some (.slice (some ⟨a.g, 0, none⟩) s.X.length a.cap) := h.blk.at_ 11
  have h1 : w.cell? ⟨p, 12, none⟩ = some (.int .i64 s.k) := h.blk.at_ 12
  have h2 : w.cell? ⟨p, 13, none⟩ = some (.int .i64 s.i) := h.blk.at_ 13
  have h3 : w.cell? ⟨p, 14, none⟩ = some (.int .u64 s.o) := h.blk.at_ 14
  have h4 : w.cell? ⟨p, 15, none⟩ = some (.int .u64 s.v) := h.blk.at_ 15
  have h5 : w.cell? ⟨p, 16, none⟩ = some (.int .i64 s.c) := h.blk.at_ 16
  have hc : w.cell? ⟨a.g, j, none⟩ = some (.int .u64 (s.X.getD j 0)) := h.row.cell hj
  have f1 := h.blk.free 12
  have f2 := h.blk.free 13
  have f3 := h.blk.free 14
  have f4 := h.blk.free 15
  have f5 := h.blk.free 16
  have fg := h.row.free j
  have hne := h.ne
  have hne' := hne.symm
  have hs := h.small
  have HA := Lib.hid (fun y => h.acc 4 (j := j) y)
  have HI := Lib.hid (ein_yes h hj)
  clear h
  generalize s.X.getD j 0 = x at *
  go_enter Tryz.func43, Tryz.ntmps43
  go_wp2_with fail
  refine HI.out.mono ?_
  rintro e w' ⟨rfl, rfl⟩
  go_wp2
  go_ret2
  exact ⟨rfl, HA.out _, ((((((Fr.refl _ _).setCell (by simp) _).setCell (by simp) _).setCell (by simp) _).setCell (by simp) _).setCell (by simp) _).setCell (by simp) _⟩
theorem eacc_and {w : World} {p : Nat} {a : EnvA} {s : St} (h : EnvM w p a s) {j : Nat} (hj : j < s.X.length) (b d : Int)  :
    Calls Tryz.prog 43 #[.pointer (some ⟨p, 11, none⟩), .int .i64 5, .int .i64 j, .int .u64 b, .int .u64 d] w fun e w' => e = .returned (.tuple #[.int .u64 (s.X.getD j 0), .bool true]) ∧
      EnvM w' p a (s.acc 5 j (bits .and .u64 (s.X.getD j 0) b)) ∧ Fr [p, a.g] w w' := by
  have h0 : w.cell? ⟨p, 11, none⟩ = some (.slice (some ⟨a.g, 0, none⟩) s.X.length a.cap) := h.blk.at_ 11
  have h1 : w.cell? ⟨p, 12, none⟩ = some (.int .i64 s.k) := h.blk.at_ 12
  have h2 : w.cell? ⟨p, 13, none⟩ = some (.int .i64 s.i) := h.blk.at_ 13
  have h3 : w.cell? ⟨p, 14, none⟩ = some (.int .u64 s.o) := h.blk.at_ 14
  have h4 : w.cell? ⟨p, 15, none⟩ = some (.int .u64 s.v) := h.blk.at_ 15
  have h5 : w.cell? ⟨p, 16, none⟩ = some (.int .i64 s.c) := h.blk.at_ 16
  have hc : w.cell? ⟨a.g, j, none⟩ = some (.int .u64 (s.X.getD j 0)) := h.row.cell hj
  have f1 := h.blk.free 12
  have f2 := h.blk.free 13
  have f3 := h.blk.free 14
  have f4 := h.blk.free 15
  have f5 := h.blk.free 16
  have fg := h.row.free j
  have hne := h.ne
  have hne' := hne.symm
  have hs := h.small
  have HA := Lib.hid (fun y => h.acc 5 (j := j) y)
  have HI := Lib.hid (ein_yes h hj)
  clear h
  generalize s.X.getD j 0 = x at *
  go_enter Tryz.func43, Tryz.ntmps43
  go_wp2_with fail
  refine HI.out.mono ?_
  rintro e w' ⟨rfl, rfl⟩
  go_wp2
  go_ret2
  exact ⟨rfl, HA.out _, ((((((Fr.refl _ _).setCell (by simp) _).setCell (by simp) _).setCell (by simp) _).setCell (by simp) _).setCell (by simp) _).setCell (by simp) _⟩
theorem eacc_add {w : World} {p : Nat} {a : EnvA} {s : St} (h : EnvM w p a s) {j : Nat} (hj : j < s.X.length) (b d : Int)  :
    Calls Tryz.prog 43 #[.pointer (some ⟨p, 11, none⟩), .int .i64 6, .int .i64 j, .int .u64 b, .int .u64 d] w fun e w' => e = .returned (.tuple #[.int .u64 (s.X.getD j 0), .bool true]) ∧
      EnvM w' p a (s.acc 6 j (IntKind.u64.wrap (s.X.getD j 0 + b))) ∧ Fr [p, a.g] w w' := by
  have h0 : w.cell? ⟨p, 11, none⟩ = some (.slice (some ⟨a.g, 0, none⟩) s.X.length a.cap) := h.blk.at_ 11
  have h1 : w.cell? ⟨p, 12, none⟩ = some (.int .i64 s.k) := h.blk.at_ 12
  have h2 : w.cell? ⟨p, 13, none⟩ = some (.int .i64 s.i) := h.blk.at_ 13
  have h3 : w.cell? ⟨p, 14, none⟩ = some (.int .u64 s.o) := h.blk.at_ 14
  have h4 : w.cell? ⟨p, 15, none⟩ = some (.int .u64 s.v) := h.blk.at_ 15
  have h5 : w.cell? ⟨p, 16, none⟩ = some (.int .i64 s.c) := h.blk.at_ 16
  have hc : w.cell? ⟨a.g, j, none⟩ = some (.int .u64 (s.X.getD j 0)) := h.row.cell hj
  have f1 := h.blk.free 12
  have f2 := h.blk.free 13
  have f3 := h.blk.free 14
  have f4 := h.blk.free 15
  have f5 := h.blk.free 16
  have fg := h.row.free j
  have hne := h.ne
  have hne' := hne.symm
  have hs := h.small
  have HA := Lib.hid (fun y => h.acc 6 (j := j) y)
  have HI := Lib.hid (ein_yes h hj)
  clear h
  generalize s.X.getD j 0 = x at *
  go_enter Tryz.func43, Tryz.ntmps43
  go_wp2_with fail
  refine HI.out.mono ?_
  rintro e w' ⟨rfl, rfl⟩
  go_wp2
  go_ret2
  exact ⟨rfl, HA.out _, ((((((Fr.refl _ _).setCell (by simp) _).setCell (by simp) _).setCell (by simp) _).setCell (by simp) _).setCell (by simp) _).setCell (by simp) _⟩
end Go.Proofs.YtjehiekmlbeaeaaGreat
