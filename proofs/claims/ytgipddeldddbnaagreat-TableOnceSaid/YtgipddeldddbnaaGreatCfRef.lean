/-
  The reference's Coder as a reader: the contract of Number; blocks that are filled while numbers are read.
-/
import Derived.Test.YtgipddeldddbnaaGreatMgBK
namespace Go.Proofs.YtgipddeldddbnaaGreat
open Go Go.RowKit

/-- The Coder r stands at place i of the bytes zs, which lie below B. -/
def Cdr (w : World) (B r : Nat) (zs : List Int) (i : Nat) : Prop :=
  ∃ a n c, Blk w r 93 #[.slice a n c, .slice none 0 0, .int .i64 i, .bool false] ∧ InB w B a n zs ∧ B ≤ r
theorem Cdr.lt {w : World} {B g : Nat} {zs : List Int} {i : Nat} (h : Cdr w B g zs i) : g < w.heap.size := by
  obtain ⟨a, n, c, h1, _⟩ := h
  exact h1.lt
theorem stable_cdr : Stable Cdr := by
  intro w w' B g zs i S h hf hS
  obtain ⟨a, n, c, h1, h2, h3⟩ := h
  exact ⟨a, n, c, h1.of_same (hf.block g h1.lt (fun hm => (hS g hm).2 rfl)), h2.fr (by have := h1.lt; omega) hf (fun s hs => (hS s hs).1), h3⟩

def NumN (B g : Nat) (zs : List Int) (i : Nat) (k : Int) (w : World) (e : Ending) (w' : World) : Prop :=
  e = .returned (.int .i64 (strm zs i % k)) ∧ Cdr w' B g zs (i + 1) ∧ Fr [g] w w'

set_option maxRecDepth 20000 in
set_option maxHeartbeats 2000000 in
theorem number_any {w : World} {B g : Nat} {zs : List Int} {i : Nat} (h : Cdr w B g zs i) (k : Int) (hk : 1 ≤ k) (hk' : k ≤ 1000) (hi : i ≤ 100000) :
    Calls Tryz.prog 29 #[.pointer (some ⟨g, 0, none⟩), .int .i64 k] w (NumN B g zs i k w) := by
  have hlt := h.lt
  obtain ⟨a, n, c, hb, hz, hB⟩ := h
  have hmax := hz.2.1
  unfold maxLen at hmax
  have hlen := hz.1
  have HZ := Lib.hid hz
  have HB := Lib.hid hb
  have hc0 : w.cell? ⟨g, 0, none⟩ = some (.slice a n c) := hb.at_ 0
  have hc2 : w.cell? ⟨g, 2, none⟩ = some (.int .i64 i) := hb.at_ 2
  have hf2 := hb.free 2
  have hend : ∀ v : Int, v = (i : Int) + 1 → Cdr ((w.drew.drew).setCell ⟨g, 2, none⟩ (.int .i64 v)) B g zs (i + 1) ∧ Cdr ((w.drew).setCell ⟨g, 2, none⟩ (.int .i64 v)) B g zs (i + 1) := by
    intro v hv
    subst hv
    have h1 : ∀ u : World, u.heap = w.heap → Cdr (u.setCell ⟨g, 2, none⟩ (.int .i64 ((i : Int) + 1))) B g zs (i + 1) := by
      intro u hu
      have hbu : Blk u g 93 #[.slice a n c, .slice none 0 0, .int .i64 i, .bool false] := by
        have := HB.out
        unfold Blk at this ⊢
        rw [hu]
        exact this
      have hzu : InB u B a n zs := ⟨HZ.out.1, HZ.out.2.1, fun j hj => by
        obtain ⟨x, e, hx, hc, hr⟩ := HZ.out.2.2 j hj
        refine ⟨x, e, hx, ?_, hr⟩
        unfold World.cell? at hc ⊢
        rw [hu]
        exact hc⟩
      have hp := hbu.put 2 (.int .i64 ((i : Int) + 1))
      simp only [List.setIfInBounds_toArray, List.set_cons_zero, List.set_cons_succ] at hp
      exact ⟨a, n, c, hp, hzu.fr (S := [g]) (by rw [hu]; omega) ((Fr.refl _ _).setCell (p := ⟨g, 2, none⟩) (.inl (List.mem_singleton.2 rfl)) _) (fun s hs => by simp at hs; omega), hB⟩
    exact ⟨h1 _ rfl, h1 _ rfl⟩
  have HE := Lib.hid hend
  clear hz hb hend
  by_cases hn : i < n
  · obtain ⟨x, rfl, hx, hcx, z0, z1⟩ := HZ.out.2.2 i hn
    obtain ⟨z, hzz⟩ : ∃ z, zs.getD i 0 = z := ⟨_, rfl⟩
    rw [hzz] at hcx z0 z1
    have HS := Lib.hid (show strm zs i = z from hzz)
    have i0 : (0 : Int) ≤ (i : Int) := by omega
    have i1 : (i : Int) < (n : Int) := by omega
    have m0 : 0 ≤ z % k := Int.emod_nonneg _ (by omega)
    have m1 : z % k < k := Int.emod_lt_of_pos _ (by omega)
    clear hzz hlen HZ HB
    go_enter Tryz.func29, Tryz.ntmps29
    go_wp2_with fail
    go_region
    go_wp2_with fail
    go_region
    go_wp2
    go_ret
    exact ⟨by rw [HS.out]; rfl, (HE.out _ rfl).1, ((Fr.refl _ _).drew.drew).setCell (p := ⟨g, 2, none⟩) (.inl (List.mem_singleton.2 rfl)) _⟩
  · have hs : strm zs i = 0 := by
      unfold strm
      rw [List.getD_eq_getElem?_getD, List.getElem?_eq_none (by omega)]
      rfl
    have HS := Lib.hid hs
    have i1 : ¬ (i : Int) < (n : Int) := by omega
    clear hs hlen HZ HB
    go_enter Tryz.func29, Tryz.ntmps29
    go_wp2_with fail
    go_region
    go_wp2
    go_ret
    exact ⟨by rw [HS.out, Int.zero_emod]; rfl, (HE.out _ rfl).2, ((Fr.refl _ _).drew).setCell (p := ⟨g, 2, none⟩) (.inl (List.mem_singleton.2 rfl)) _⟩

/-- A new block c of type t that holds the cells cs, while the reader g moves on. -/
structure BSt (Rd : World → Nat → Nat → List Int → Nat → Prop) (t : TypeId) (w0 : World) (B g : Nat) (zs : List Int) (i : Nat) (c : Nat) (cs : Array Value) (w : World) : Prop where
  rd : Rd w B g zs i
  fr : Fr [g] w0 w
  b : Blk w c t cs
  new : w0.heap.size ≤ c
theorem BSt.first {Rd : World → Nat → Nat → List Int → Nat → Prop} {t : TypeId} {w0 w1 : World} {B g : Nat} {zs : List Int} {i : Nat} (hst : Stable Rd) (hr : Rd w1 B g zs i) (hf : Fr [g] w0 w1) (cs : Array Value) :
    BSt Rd t w0 B g zs i w1.heap.size cs (w1.alloc (.cells cs t)) :=
  ⟨hst (S := []) hr ((Fr.refl [] w1).alloc _) (fun s hs => by cases hs), hf.alloc _, Blk.made _ _ _, hf.size⟩
theorem BSt.step {Rd : World → Nat → Nat → List Int → Nat → Prop} {t : TypeId} {w0 w w' : World} {B g c : Nat} {zs : List Int} {i : Nat} {cs : Array Value} (h : BSt Rd t w0 B g zs i c cs w) (hst : Stable Rd) (hg : g < w0.heap.size) (hB : B ≤ g) (hr : Rd w' B g zs (i + 1)) (hf : Fr [g] w w') (j : Nat) (u : Value) :
    BSt Rd t w0 B g zs (i + 1) c (cs.setIfInBounds j u) (w'.setCell ⟨c, j, none⟩ u) := by
  have hn := h.new
  have hc := h.b.of_same (hf.block _ h.b.lt (by simp; omega))
  exact ⟨hst (S := [c]) hr ((Fr.refl _ _).setCell (p := ⟨c, j, none⟩) (.inl (List.mem_singleton.2 rfl)) u) (fun s hs => by simp at hs; omega), (h.fr.trans hf).setCell (.inr (by show w0.heap.size ≤ c; omega)) u, hc.put j u, hn⟩
theorem BSt.at_ {Rd : World → Nat → Nat → List Int → Nat → Prop} {t : TypeId} {w0 w w' : World} {B g c : Nat} {zs : List Int} {i : Nat} {cs : Array Value} (h : BSt Rd t w0 B g zs i c cs w) (hg : g < w0.heap.size) (hf : Fr [g] w w') (j : Nat) : w'.cell? ⟨c, j, none⟩ = cs[j]? ∧ w'.frozen? ⟨c, j, none⟩ = false :=
  have hn := h.new
  have hc := h.b.of_same (hf.block _ h.b.lt (by simp; omega))
  ⟨hc.at_ j, hc.free j⟩
theorem three_set (w : World) (p : Addr) (x : Value) (t : TypeId) (o u v : Int) : Three ((w.setCell p x).alloc (.cells #[.int .i64 o, .int .i64 u, .int .i64 v] t)) ⟨w.heap.size, 0, none⟩ (o, u, v) := by
  have := three_new (w.setCell p x) t o u v
  rwa [show (w.setCell p x).heap.size = w.heap.size by simp [World.setCell]] at this
end Go.Proofs.YtgipddeldddbnaaGreat
