/-
  Contract of memory.New.
  Package clock: New, Now, Copy.
  Package machine: the environment of the program, Bare.
-/
import Derived.Test.YtgipddeldddbnaaGreatMgAH
import Derived.Maps.AppendAt
import Derived.OwnWalk
import Derived.Deep.RegionHeld3
import Derived.Deep.OwnRows
import Derived.Test.YtgipddeldddbnaaGreatMgAA
import Derived.WalkSpells
import Derived.WalkLawsBesides
import Derived.Lib.Hide
import Derived.IntWalk
import Derived.StillTailTactics
import Derived.Deep.Cut
import Derived.Deep.CutRange
namespace Go.Proofs.YtgipddeldddbnaaGreat
open Go Go.RowKit Go.Shelf

theorem Row.alloc {w : World} {g n cap : Nat} {X : List Int} (h : Row w g n cap X) (o : Obj) : Row (w.alloc o) g n cap X := h.of_same (Below.heap_alloc w o g h.lt)

theorem new_mem (w : World) (n : Nat) (hn : n ≤ 131072) :
    Mem ((w.alloc (.cells (madeCells #[.int .u64 0] n) 103)).alloc (.cells #[.slice (some ⟨w.heap.size, 0, none⟩) n n, .int .i64 0, .int .i64 0, .int .i64 0, .int .u64 0, .int .u64 0] 107)) (w.heap.size + 1) w.heap.size n (St.new n) := by
  refine ⟨?_, ?_, by simpa [St.new] using hn⟩
  · have := Blk.made (w.alloc (.cells (madeCells #[.int .u64 0] n) 103)) 107 #[.slice (some ⟨w.heap.size, 0, none⟩) n n, .int .i64 0, .int .i64 0, .int .i64 0, .int .u64 0, .int .u64 0]
    simpa [St.new] using this
  · have := (made_row w n hn).alloc (.cells #[.slice (some ⟨w.heap.size, 0, none⟩) n n, .int .i64 0, .int .i64 0, .int .i64 0, .int .u64 0, .int .u64 0] 107)
    simpa [St.new] using this


theorem mnew_any (c : Int) (w : World) :
    Calls Tryz.prog 23 #[.int .i64 c] w fun e w' => e = .returned (.pointer (some ⟨w.heap.size + 1, 0, none⟩)) ∧ Mem w' (w.heap.size + 1) w.heap.size (sizeS c) (St.new (sizeS c)) ∧ Below w.heap.size w w' := by
  have hmk := fun (n : Nat) (hn : n ≤ 131072) (W : World) => run_make_row' (P := Tryz.prog) 102 103 (.int .u64 0) 8 Tryz.underlying102 info_u64 rfl .i64 .i64 n (by omega) (by omega) W
  have hb : ∀ o o' : Obj, Below w.heap.size w ((w.alloc o).alloc o') := fun o o' => ((Below.refl _ _).alloc (Nat.le_refl _) _).alloc (by simp) _
  have HM := Lib.hid (new_mem w)
  have HB := Lib.hid hb
  clear hb
  by_cases h1 : c < 0
  · have e : sizeS c = 0 := by unfold sizeS; rw [if_pos (by omega)]
    rw [e]
    clear e
    have hk := hmk 0 (by omega)
    rw [show ((0 : Nat) : Int) = 0 from rfl] at hk
    clear hmk
    go_enter Tryz.func23, Tryz.ntmps23
    go_wp2
    go_ret
    exact ⟨rfl, HM.out 0 (by omega), HB.out _ _⟩
  · by_cases h2 : c ≤ 131072
    · obtain ⟨n, rfl⟩ : ∃ n : Nat, c = (n : Int) := ⟨c.toNat, by omega⟩
      have e : sizeS n = n := by unfold sizeS; split <;> omega
      rw [e]
      clear e
      have hk := hmk n (by omega)
      clear hmk
      go_enter Tryz.func23, Tryz.ntmps23
      go_wp2
      go_ret
      exact ⟨rfl, HM.out n (by omega), HB.out _ _⟩
    · have e : sizeS c = 131072 := by unfold sizeS; split <;> omega
      rw [e]
      clear e
      have hk := hmk 131072 (by omega)
      rw [show ((131072 : Nat) : Int) = 131072 from rfl] at hk
      clear hmk
      go_enter Tryz.func23, Tryz.ntmps23
      go_wp2
      go_ret
      exact ⟨rfl, HM.out 131072 (by omega), HB.out _ _⟩

end Go.Proofs.YtgipddeldddbnaaGreat

namespace Go.Proofs.YtgipddeldddbnaaGreat
open Go Go.RowKit

/-- Block p is a clock with time t and draw d. -/
def Clk (w : World) (p : Nat) (t d : Int) : Prop := Blk w p 109 #[.int .i64 t, .int .i64 d]

theorem Clk.fr {S : List Nat} {w w' : World} {p : Nat} {t d : Int} (h : Clk w p t d) (f : Fr S w w') (hp : p ∉ S) : Clk w' p t d := Blk.of_same h (f.block p (Blk.lt h) hp)
theorem Clk.below {w w' : World} {p : Nat} {t d : Int} (h : Clk w p t d) (f : Below w.heap.size w w') : Clk w' p t d := h.fr (Fr.old (S := []) f) (by simp)

theorem cnew_any (w : World) :
    Calls Tryz.prog 24 #[] w fun e w' => e = .returned (.pointer (some ⟨w.heap.size, 0, none⟩)) ∧ Clk w' w.heap.size 0 0 ∧ Below w.heap.size w w' := by
  go_enter Tryz.func24, Tryz.ntmps24
  go_wp2
  go_ret
  exact ⟨rfl, Blk.made w _ _, (Below.refl _ _).alloc (Nat.le_refl _) _⟩

end Go.Proofs.YtgipddeldddbnaaGreat

namespace Go.Proofs.YtgipddeldddbnaaGreat
open Go Go.RowKit Go.Shelf

/-- Block p is an environment of the program: ahead of its pointers stand the cells hd of its configuration and its layout. -/
structure PE (w : World) (p m k g cap : Nat) (s : St) (t d : Int) (hd : List Value) (rv ev : Value) : Prop where
  blk : Blk w p 40 (hd ++ [.pointer (some ⟨m, 0, none⟩), .pointer (some ⟨k, 0, none⟩), rv, ev]).toArray
  len : hd.length = 20
  mem : Mem w m g cap s
  clk : Clk w k t d

section
variable {w w' : World} {p m k g cap : Nat} {s s' : St} {t d : Int} {hd : List Value} {rv ev : Value}
theorem PE.at20 (h : PE w p m k g cap s t d hd rv ev) : w.cell? ⟨p, 20, none⟩ = some (.pointer (some ⟨m, 0, none⟩)) := by
  rw [h.blk.at_, List.getElem?_toArray, List.getElem?_append_right (by rw [h.len]; decide), h.len]; rfl
theorem PE.at21 (h : PE w p m k g cap s t d hd rv ev) : w.cell? ⟨p, 21, none⟩ = some (.pointer (some ⟨k, 0, none⟩)) := by
  rw [h.blk.at_, List.getElem?_toArray, List.getElem?_append_right (by rw [h.len]; decide), h.len]; rfl
theorem PE.at22 (h : PE w p m k g cap s t d hd rv ev) : w.cell? ⟨p, 22, none⟩ = some rv := by
  rw [h.blk.at_, List.getElem?_toArray, List.getElem?_append_right (by rw [h.len]; decide), h.len]; rfl
theorem PE.at23 (h : PE w p m k g cap s t d hd rv ev) : w.cell? ⟨p, 23, none⟩ = some ev := by
  rw [h.blk.at_, List.getElem?_toArray, List.getElem?_append_right (by rw [h.len]; decide), h.len]; rfl
theorem PE.hpm (h : PE w p m k g cap s t d hd rv ev) : p ≠ m := h.blk.apart h.mem.blk (by decide)
theorem PE.hpk (h : PE w p m k g cap s t d hd rv ev) : p ≠ k := h.blk.apart h.clk (by decide)
theorem PE.hpg (h : PE w p m k g cap s t d hd rv ev) : p ≠ g := by
  obtain ⟨cur, hb, _⟩ := h.mem.row.blk
  exact h.blk.apart hb (by decide)
theorem PE.hkm (h : PE w p m k g cap s t d hd rv ev) : k ≠ m := Blk.apart h.clk h.mem.blk (by decide)
theorem PE.hkg (h : PE w p m k g cap s t d hd rv ev) : k ≠ g := by
  obtain ⟨cur, hb, _⟩ := h.mem.row.blk
  exact Blk.apart h.clk hb (by decide)
theorem PE.acc (h : PE w p m k g cap s t d hd rv ev) (hm : Mem w' m g cap s') (hf : Fr [m, g] w w') : PE w' p m k g cap s' t d hd rv ev :=
  ⟨h.blk.of_same (hf.block p h.blk.lt (by simp [h.hpm, h.hpg])), h.len, hm, h.clk.fr hf (by simp [h.hkm, h.hkg])⟩
theorem PE.fr {S : List Nat} (h : PE w p m k g cap s t d hd rv ev) (hf : Fr S w w') (h1 : p ∉ S) (h2 : m ∉ S) (h3 : k ∉ S) (h4 : g ∉ S) : PE w' p m k g cap s t d hd rv ev :=
  ⟨h.blk.of_same (hf.block p h.blk.lt h1), h.len, h.mem.fr hf h2 h4, h.clk.fr hf h3⟩
theorem PE.below (h : PE w p m k g cap s t d hd rv ev) (hb : Below w.heap.size w w') : PE w' p m k g cap s t d hd rv ev :=
  h.fr (Fr.old (S := []) hb) (by simp) (by simp) (by simp) (by simp)
theorem PE.alloc (h : PE w p m k g cap s t d hd rv ev) (o : Obj) : PE (w.alloc o) p m k g cap s t d hd rv ev := h.below ((Below.refl _ _).alloc (Nat.le_refl _) o)
theorem PE.drewN (h : PE w p m k g cap s t d hd rv ev) (n : Nat) : PE (w.drewN n) p m k g cap s t d hd rv ev := ⟨h.blk, h.len, h.mem.drewN n, h.clk⟩
end

/-- The cells ahead of the pointers, in an environment that Bare makes. -/
abbrev hd0 : List Value := [.int .i64 0, .int .i64 0, .int .i64 0, .int .i64 0, .int .i64 0, .int .i64 0, .int .i64 0, .int .i64 0, .int .i64 0, .slice none 0 0, .slice none 0 0, .int .i64 0, .int .i64 0, .int .i64 0, .int .i64 0, .int .i64 0, .int .i64 0, .int .i64 0, .int .i64 0, .int .i64 0]

/-- What Bare gives: a new environment with a memory of n cells. -/
def PBared (w : World) (n : Nat) (e : Ending) (w' : World) : Prop :=
  ∃ p m k g : Nat, e = .returned (.pointer (some ⟨p, 0, none⟩)) ∧ PE w' p m k g n (St.new n) 0 0 hd0 (.slice none 0 0) (.slice none 0 0) ∧ Below w.heap.size w w' ∧ w.heap.size ≤ p ∧ w.heap.size ≤ m ∧ w.heap.size ≤ k ∧ w.heap.size ≤ g

theorem pbare_any (c : Int) (w : World) : Calls Tryz.prog 12 #[.int .i64 c] w (PBared w (sizeS c)) := by
  go_enter Tryz.func12, Tryz.ntmps12
  go_wp2_with fail
  refine (mnew_any c w).mono ?_
  rintro e w1 ⟨rfl, hm, hb⟩
  go_wp2_with fail
  refine (cnew_any w1).mono ?_
  rintro e w2 ⟨rfl, hk, hb2⟩
  have hs := hb.size
  have hs2 := hb2.size
  have hm2 := hm.fr (Fr.old (S := []) hb2) (by simp) (by simp)
  have hb3 : Below w.heap.size w w2 := hb.trans (hb2.mono hs)
  generalize hW : w.heap.size = N at *
  have hg := hm2.row.lt
  have hmm := hm2.blk.lt
  clear hm hb hb2
  go_wp2
  go_ret
  refine ⟨w2.heap.size, N + 1, w1.heap.size, N, rfl, ⟨Blk.made w2 _ _, rfl, hm2.alloc _, hk.below ((Below.refl _ _).alloc (Nat.le_refl _) _)⟩, hW ▸ (hb3.alloc (by omega) _), by omega, by omega, by omega, by omega⟩
end Go.Proofs.YtgipddeldddbnaaGreat
