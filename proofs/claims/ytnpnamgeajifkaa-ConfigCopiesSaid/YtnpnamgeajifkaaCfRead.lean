/-
  Contracts of the program's reader: bytes that are read one after another.
-/
import Derived.Test.YtnpnamgeajifkaaCfOwn
namespace Go.Proofs.Ytnpnamgeajifkaa
open Go Go.RowKit

/-- The slice (a, n) reads as the bytes zs, in a block below B. -/
def InB (w : World) (B : Nat) (a : Option Addr) (n : Nat) (zs : List Int) : Prop :=
  zs.length = n ∧ n ≤ maxLen ∧ ∀ i, i < n → ∃ x : Addr, a = some x ∧ x.block < B ∧ w.cell? (x.add i) = some (.int .u8 (zs.getD i 0)) ∧ 0 ≤ zs.getD i 0 ∧ zs.getD i 0 ≤ 255
theorem InB.fr {w w' : World} {B : Nat} {a : Option Addr} {n : Nat} {zs : List Int} {S : List Nat} (h : InB w B a n zs) (hB : B ≤ w.heap.size) (hb : Fr S w w') (hS : ∀ s, s ∈ S → B ≤ s) : InB w' B a n zs :=
  ⟨h.1, h.2.1, fun i hi => by
    obtain ⟨x, e, hx, hc, hr⟩ := h.2.2 i hi
    refine ⟨x, e, hx, ?_, hr⟩
    have hk := hb.block x.block (by omega) (fun hm => by have := hS _ hm; omega)
    rw [World.cell?_of_block (w := w) (by rw [block_add]; exact hk)]
    exact hc⟩
theorem InB.below {w w' : World} {B : Nat} {a : Option Addr} {n : Nat} {zs : List Int} (h : InB w B a n zs) (_hB : B ≤ w.heap.size) (hb : Below B w w') : InB w' B a n zs :=
  ⟨h.1, h.2.1, fun i hi => by
    obtain ⟨x, e, hx, hc, hr⟩ := h.2.2 i hi
    refine ⟨x, e, hx, ?_, hr⟩
    rw [hb.cell (by rw [block_add]; exact hx)]
    exact hc⟩
theorem InB.mono {w : World} {B B' : Nat} {a : Option Addr} {n : Nat} {zs : List Int} (h : InB w B a n zs) (hB : B ≤ B') : InB w B' a n zs :=
  ⟨h.1, h.2.1, fun i hi => by
    obtain ⟨x, e, hx, r⟩ := h.2.2 i hi
    exact ⟨x, e, by omega, r⟩⟩
theorem inB_nil (w : World) (B : Nat) (a : Option Addr) : InB w B a 0 [] := ⟨rfl, by omega, fun i hi => by omega⟩
/-- What is left behind the first byte. -/
theorem InB.rest {w : World} {B : Nat} {x : Addr} {n : Nat} {zs : List Int} (h : InB w B (some x) n zs) (hn : 1 ≤ n) : InB w B (some (x.add 1)) (n - 1) (zs.drop 1) := by
  refine ⟨by rw [List.length_drop, h.1], by have := h.2.1; omega, fun i hi => ?_⟩
  obtain ⟨y, e, hx, hc, hr⟩ := h.2.2 (1 + i) (by omega)
  cases e
  have eg : (zs.drop 1).getD i 0 = zs.getD (1 + i) 0 := by
    rw [List.getD_eq_getElem?_getD, List.getD_eq_getElem?_getD, List.getElem?_drop]
  refine ⟨_, rfl, by rw [block_add]; exact hx, ?_, ?_⟩
  · rw [Go.Deep.add_add, eg]
    exact hc
  · rw [eg]
    exact hr

/-- The reader's variable g stands at place i of the bytes zs, which lie below B. -/
def Rdr (w : World) (B g : Nat) (zs : List Int) (i : Nat) : Prop :=
  ∃ a n c, Blk w g 26 #[.slice a n c] ∧ InB w B a n (zs.drop i) ∧ n ≤ c ∧ B ≤ g
theorem Rdr.lt {w : World} {B g : Nat} {zs : List Int} {i : Nat} (h : Rdr w B g zs i) : g < w.heap.size := by
  obtain ⟨a, n, c, h1, _⟩ := h
  exact h1.lt
theorem Rdr.le {w : World} {B g : Nat} {zs : List Int} {i : Nat} (h : Rdr w B g zs i) : B ≤ g := by
  obtain ⟨a, n, c, _, _, _, h1⟩ := h
  exact h1
theorem Rdr.fr {w w' : World} {B g : Nat} {zs : List Int} {i : Nat} {S : List Nat} (h : Rdr w B g zs i) (hb : Fr S w w') (hS : ∀ s, s ∈ S → B ≤ s ∧ s ≠ g) : Rdr w' B g zs i := by
  obtain ⟨a, n, c, h1, h2, h3, h4⟩ := h
  exact ⟨a, n, c, h1.of_same (hb.block g h1.lt (fun hm => (hS g hm).2 rfl)), h2.fr (by have := h1.lt; omega) hb (fun s hs => (hS s hs).1), h3, h4⟩
theorem Rdr.below {w w' : World} {B g : Nat} {zs : List Int} {i : Nat} (h : Rdr w B g zs i) (hb : Below w.heap.size w w') : Rdr w' B g zs i := h.fr (S := []) (Fr.old hb) (fun s hs => by cases hs)
theorem Rdr.alloc {w : World} {B g : Nat} {zs : List Int} {i : Nat} (h : Rdr w B g zs i) (o : Obj) : Rdr (w.alloc o) B g zs i := h.below (below_one w o)
theorem Rdr.drew {w : World} {B g : Nat} {zs : List Int} {i : Nat} (h : Rdr w B g zs i) : Rdr w.drew B g zs i := h.below (below_drew (Below.refl _ _))
theorem Rdr.set {w : World} {B g : Nat} {zs : List Int} {i : Nat} (h : Rdr w B g zs i) {p : Addr} (hp : B ≤ p.block) (hg : p.block ≠ g) (u : Value) : Rdr (w.setCell p u) B g zs i :=
  h.fr (S := [p.block]) ((Fr.refl _ w).setCell (.inl (by simp)) u) (fun s hs => by simp at hs; subst hs; exact ⟨hp, hg⟩)

theorem strm_drop (zs : List Int) (i : Nat) : (zs.drop i).getD 0 0 = strm zs i := by
  unfold strm
  rw [List.getD_eq_getElem?_getD, List.getD_eq_getElem?_getD, List.getElem?_drop, Nat.add_zero]

/-- What reading gives. -/
def ReadN (B g : Nat) (zs : List Int) (i : Nat) (k : Int) (w : World) (e : Ending) (w' : World) : Prop :=
  e = .returned (.int .i64 (strm zs i % k)) ∧ Rdr w' B g zs (i + 1) ∧ Fr [g] w w'

set_option maxHeartbeats 1000000 in
theorem next_any {w : World} {B g : Nat} {zs : List Int} {i : Nat} (h : Rdr w B g zs i) (k : Int) (hk : 1 ≤ k) (hk' : k ≤ 1000) :
    Calls Try.prog 47 #[.int .i64 k, .pointer (some ⟨g, 0, none⟩)] w (ReadN B g zs i k w) := by
  have hlt := h.lt
  obtain ⟨a, n, c, hb, hz, hc, hB⟩ := h
  have hmax := hz.2.1
  unfold maxLen at hmax
  have HZ := Lib.hid hz
  have HB := Lib.hid hb
  have hc0 : w.cell? ⟨g, 0, none⟩ = some (.slice a n c) := hb.at_ 0
  have hf0 := hb.free 0
  by_cases hn : n = 0
  · subst hn
    have hd : zs.drop i = [] := List.eq_nil_of_length_eq_zero hz.1
    have hs : strm zs i = 0 := by rw [← strm_drop, hd]; rfl
    have hd2 : zs.drop (i + 1) = [] := by
      have : zs.length ≤ i := by simpa using hd
      simp
      omega
    have HS := Lib.hid hs
    have HD := Lib.hid hd2
    clear hz hb hd hs hd2
    go_enter Try.func47, Try.ntmps47
    go_wp2
    go_ret
    refine ⟨?_, ⟨a, 0, c, HB.out, ?_, hc, hB⟩, Fr.refl _ _⟩
    · rw [HS.out, Int.zero_emod]
      rfl
    · rw [HD.out]
      exact inB_nil _ _ _
  · obtain ⟨x, rfl, hx, hcx, z0, z1⟩ := hz.2.2 0 (by omega)
    rw [strm_drop] at hcx z0 z1
    have hr := hz.rest (by omega)
    rw [List.drop_drop] at hr
    have HR := Lib.hid hr
    have hn1 : 1 ≤ n := by omega
    have hc1 : 1 ≤ c := by omega
    obtain ⟨z, hzz⟩ : ∃ z, strm zs i = z := ⟨_, rfl⟩
    rw [hzz] at hcx z0 z1
    have HZZ := Lib.hid hzz
    clear hzz
    clear hz hb hr
    have hcx' : w.cell? x = some (.int .u8 z) := by
      have e : x.add 0 = x := by simp [Addr.add]
      rwa [e] at hcx
    have m0 : 0 ≤ z % k := Int.emod_nonneg _ (by omega)
    have m1 : z % k < k := Int.emod_lt_of_pos _ (by omega)
    by_cases hcc : c = 1
    · have hn2 : n = 1 := by omega
      subst hn2
      subst hcc
      go_enter Try.func47, Try.ntmps47
      go_wp2
      go_ret
      refine ⟨by rw [HZZ.out]; rfl, ⟨some x, 0, 0, HB.out.put 0 _, ?_, by omega, hB⟩, (Fr.refl _ _).setCell (by simp) _⟩
      have h0 : zs.drop (i + 1) = [] := List.eq_nil_of_length_eq_zero HR.out.1
      rw [h0]
      exact inB_nil _ _ _
    · go_enter Try.func47, Try.ntmps47
      go_wp2
      go_ret
      refine ⟨by rw [HZZ.out]; rfl, ⟨some (x.add 1), n - 1, c - 1, HB.out.put 0 _, ?_, by omega, hB⟩, (Fr.refl _ _).setCell (by simp) _⟩
      exact HR.out.fr (by omega) (S := [g]) ((Fr.refl _ _).setCell (by simp) _) (fun s hs => by simp at hs; omega)
end Go.Proofs.Ytnpnamgeajifkaa
